/-
  Open, Keyval, RightFns, Less, ValidA, ValidB, ValidC, ValidD, ValidE, ValidZ, Orders, RightMath, Ref7, Ho, Hl, Hm, Hn, Hk, Hf as one.
-/
import Derived.Test.YtahhnfhnlffmpaaDoorRows
import Derived.WalkKit
import Derived.ProofKit
import Derived.OpenShut
import Derived.Deep.Slices
import Derived.Deep.Fields
import Derived.ChangeSame
import Derived.Lib.SmallJoins
import Derived.Lib.LaidTab
import Derived.Lib.Hide
import Derived.Stop.LaidErr
import Derived.LaidMore
import Derived.Outline
import Derived.Deep.RegionWith
import Derived.Deep.RegionHeld3
import Derived.WalkLawsBesides
import Derived.WalkSpells
import Derived.Laws.BitsAllLaws
import Derived.WalkSmall
import Derived.Deep.QuietTactic
import Derived.BigQuiet
import Derived.Maps.OwnSet
import Derived.DeepKeys4
import Derived.Maps.AppendAt
import Derived.OneCell
import Derived.OwnWalk
import Derived.Laws.OwnMore
import Derived.Laws.Cover3
import Derived.Deep.DeepCutAuto
import Derived.Deep.Cut
namespace Go.Proofs.YtahhnfhnlffmpaaDoor
open Go.Joins Go.ChangeShapes Go.WideShapes Go.ChangeAt Go.RowKit Go.Deep
set_option linter.unusedVariables false

/-- A slice of integers that came in: nil, or 'cap' cells, the first 'len' its elements. -/
def IsRow (k : IntKind) (w : World) (a : Option Addr) (len cap : Nat) (zs : List Int) : Prop :=
  (a = none ∧ len = 0 ∧ cap = 0 ∧ zs = []) ∨
  ∃ x, a = some x ∧ len ≤ cap ∧ cap ≤ maxLen ∧ zs.length = cap ∧ (∀ i, i < zs.length → w.cell? (x.add i) = some (.int k (zs.getD i 0))) ∧ ∀ n ∈ zs, (Lit.int k n).wf = true

section
variable {H : Type} {enc : TypeId × Value → H} {P : Program} {w : World} {base : Nat} {spare : Nat → Bool} {held : Bool}
theorem open_agg5 {r : Reach} {b0 : Nat} {t : TypeId} {f0 f1 f2 f3 f4 : Field} {v : Value} {d : DataW H} {p : List MemPlace} (hs : P.underlying t = some (.struct #[f0, f1, f2, f3, f4])) (hone : oneCellFields P #[f0, f1, f2, f3, f4] = true) (hC : P.cellsOf t = 5)
    (hv : Value.okWide P w r b0 t v) (h : DataW.Trod enc P w base spare held t v d p) :
    ∃ (v0 v1 v2 v3 v4 : Value) (y0 y1 y2 y3 y4 : DataW H × List MemPlace) (n : Nat), v = .agg #[v0, v1, v2, v3, v4] ∧ d = .agg [y0.1, y1.1, y2.1, y3.1, y4.1] ∧ p = y0.2 ++ (y1.2 ++ (y2.2 ++ (y3.2 ++ y4.2))) ∧
      DataW.trod enc P w base spare held n f0.type [v0] = some y0 ∧ DataW.trod enc P w base spare held n f1.type [v1] = some y1 ∧ DataW.trod enc P w base spare held n f2.type [v2] = some y2 ∧ DataW.trod enc P w base spare held n f3.type [v3] = some y3 ∧ DataW.trod enc P w base spare held n f4.type [v4] = some y4 := by
  obtain ⟨cs, rfl, hsz⟩ := okWide_struct hs hv
  obtain ⟨l⟩ := cs
  match l, hsz.trans hC with
  | [c0, c1, c2, c3, c4], _ =>
    obtain ⟨fuel, hf⟩ := h
    obtain ⟨xs, n, _, hx, _, hlen, hg⟩ := DataW.trod_struct hs hf
    obtain ⟨o0, k0⟩ := hone_of hone 0 f0 rfl
    obtain ⟨o1, k1⟩ := hone_of hone 1 f1 rfl
    obtain ⟨o2, k2⟩ := hone_of hone 2 f2 rfl
    obtain ⟨o3, k3⟩ := hone_of hone 3 f3 rfl
    obtain ⟨o4, k4⟩ := hone_of hone 4 f4 rfl
    match xs, hlen with
    | [y0, y1, y2, y3, y4], _ =>
      simp only [Prod.mk.injEq] at hx
      exact ⟨c0, c1, c2, c3, c4, y0, y1, y2, y3, y4, n, rfl, by simpa using hx.1, by simpa using hx.2, by simpa [Value.cells, o0, k0] using hg 0 f0 rfl, by simpa [Value.cells, o1, k1] using hg 1 f1 rfl, by simpa [Value.cells, o2, k2] using hg 2 f2 rfl, by simpa [Value.cells, o3, k3] using hg 3 f3 rfl, by simpa [Value.cells, o4, k4] using hg 4 f4 rfl⟩
end

theorem bytes_of {s : ByteArray} {l : List UInt8} (h : s.data.toList = l) : s = ⟨l.toArray⟩ := by subst h; cases s; simp

/-- A listed array of texts: what its cells hold. -/
theorem texts_of_head {P : Program} {W : World} {name : String} {l : List (List UInt8)} {rest : List (String × DataW Unit)} {g : Nat} {t e : TypeId} {n : Nat}
    (hg : P.globalNamed name = some g) (hty : (P.globals[g]?).map (·.type) = some t) (ht : P.underlying t = some (.array n e)) (he : P.underlying e = some .string) (hce : P.cellsOf e = 1) (hct : P.cellsOf t = n)
    (h : laidMet P ((name, .agg (l.map fun s => .lit (.string s))) :: rest) W) : ∀ i, i < l.length → W.cell? ⟨g, i, none⟩ = some (.string ⟨(l.getD i []).toArray⟩) := by
  obtain ⟨ps, ⟨g', t', cs, fuel, p, q, hg', ht', hvar, hd, _, _⟩, _⟩ := h
  obtain rfl := Option.some.inj (hg.symm.trans hg')
  obtain rfl := Option.some.inj (hty.symm.trans ht')
  obtain ⟨xs, m, _, hx, hlen, hxl, hat⟩ := DataW.trod_array ht hd
  simp only [Prod.mk.injEq, DataW.agg.injEq] at hx
  intro i hi
  have hln : l.length = n := by
    have := congrArg List.length hx.1
    simp at this; omega
  have h1 := hat i (by omega)
  rw [hce, Nat.mul_one] at h1
  have hxi : xs[i]? = some (xs[i]'(by omega)) := List.getElem?_eq_getElem (by omega)
  rw [hxi] at h1
  obtain ⟨s, e1, e2, _⟩ := DataW.trod_string he h1
  have h2 : (xs.map (·.1))[i]? = some (xs[i]'(by omega)).1 := by rw [List.getElem?_map, hxi]; rfl
  rw [← hx.1, e2, List.getElem?_map] at h2
  have hli : l[i]? = some (l[i]'hi) := List.getElem?_eq_getElem hi
  rw [hli] at h2
  simp at h2
  have hs := bytes_of (s := s) h2.symm
  have h3 := World.var?_cell hg hvar i
  rw [h3]
  have h4 : cs.toList[i]? = some (.string s) := by
    have := congrArg (·[0]?) e1
    simpa [List.getElem?_take, List.getElem?_drop] using this
  rw [Array.getElem?_toList] at h4
  rw [h4, hs]
  simp [List.getD, hi]
end Go.Proofs.YtahhnfhnlffmpaaDoor
namespace Go.Proofs.YtahhnfhnlffmpaaDoor
open Go.ChangeShapes Go.WideShapes Go.ChangeAt Go.RowKit
set_option linter.unusedVariables false

theorem bcell {W w1 : World} (hb : Below W.heap.size W w1) : (∀ b o, b < W.heap.size → w1.cell? ⟨b, o, none⟩ = W.cell? ⟨b, o, none⟩) ∧ (∀ b o, b < W.heap.size → w1.frozen? ⟨b, o, none⟩ = W.frozen? ⟨b, o, none⟩) :=
  ⟨fun b o h => hb.cell (p := ⟨b, o, none⟩) h, fun b o h => hb.frozen (p := ⟨b, o, none⟩) h⟩

/-- Are two keys the same? -/
def sameB (a0 a1 a2 a3 a4 b0 b1 b2 b3 b4 : Int) : Bool := a0 == b0 && (a1 == b1 && (a2 == b2 && (a3 == b3 && a4 == b4)))

theorem samekey_any (a0 a1 a2 a3 a4 b0 b1 b2 b3 b4 : Int) (w : World) :
    Calls Tryd.prog 20 #[.agg #[.int .i64 a0, .int .i64 a1, .int .i64 a2, .int .i64 a3, .int .u32 a4], .agg #[.int .i64 b0, .int .i64 b1, .int .i64 b2, .int .i64 b3, .int .u32 b4]] w
      fun e w' => e = .returned (.bool (sameB a0 a1 a2 a3 a4 b0 b1 b2 b3 b4)) ∧ Below w.heap.size w w' := by
  go_enter Tryd.func20, Tryd.ntmps20
  go_wp2
  all_goals go_ret
  all_goals refine ⟨?_, ((Below.refl _ _).alloc (Nat.le_refl _) _).alloc (by simp) _⟩
  all_goals simp [sameB, *]

theorem weaken_mem (k0 k1 k2 k3 k4 : Int) (h : k0 = 2 ∨ k0 = 3) (w : World) :
    Calls Tryd.prog 104 #[(Value.agg #[.int .i64 k0, .int .i64 k1, .int .i64 k2, .int .i64 k3, .int .u32 k4])] w
      fun e w' => e = .returned (.agg #[.int .i64 k0, .int .i64 k1, .int .i64 k2, .int .i64 (bits BinOp.or IntKind.i64 k3 5), .int .u32 k4]) ∧ Below w.heap.size w w' := by
  rcases h with rfl | rfl
  all_goals
    go_enter Tryd.func104, Tryd.ntmps104
    go_wp2
    refine bodyPost_ret (v := .agg #[.int .i64 _, .int .i64 k1, .int .i64 k2, .int .i64 (bits BinOp.or IntKind.i64 k3 5), .int .u32 k4]) (by simp [results, Tryd.results104, go_sem]) rfl ⟨rfl, ((Below.refl _ _).alloc (Nat.le_refl _) _).alloc (by simp) _⟩
theorem weaken_same (k0 k1 k2 k3 k4 : Int) (h : k0 = 0 ∨ k0 = 1 ∨ k0 = 12 ∨ k0 = 14) (w : World) :
    Calls Tryd.prog 104 #[(Value.agg #[.int .i64 k0, .int .i64 k1, .int .i64 k2, .int .i64 k3, .int .u32 k4])] w fun e w' => e = .returned (Value.agg #[.int .i64 k0, .int .i64 k1, .int .i64 k2, .int .i64 k3, .int .u32 k4]) ∧ Below w.heap.size w w' := by
  rcases h with rfl | rfl | rfl | rfl
  all_goals
    go_enter Tryd.func104, Tryd.ntmps104
    go_wp2
    refine bodyPost_ret (v := .agg #[.int .i64 _, .int .i64 k1, .int .i64 k2, .int .i64 k3, .int .u32 k4]) (by simp [results, Tryd.results104, go_sem]) rfl ⟨rfl, ((Below.refl _ _).alloc (Nat.le_refl _) _).alloc (by simp) _⟩
theorem weaken_void (k0 k1 k2 k3 k4 : Int) (h0 : ¬ k0 = 0) (h1 : ¬ k0 = 1) (h2 : ¬ k0 = 2) (h3 : ¬ k0 = 3) (h12 : ¬ k0 = 12) (h14 : ¬ k0 = 14) (w : World) :
    Calls Tryd.prog 104 #[(Value.agg #[.int .i64 k0, .int .i64 k1, .int .i64 k2, .int .i64 k3, .int .u32 k4])] w
      fun e w' => e = .returned (.agg #[.int .i64 0, .int .i64 0, .int .i64 0, .int .i64 0, .int .u32 0]) ∧ Below w.heap.size w w' := by
  go_enter Tryd.func104, Tryd.ntmps104
  go_wp2
  refine bodyPost_ret (v := .agg #[.int .i64 0, .int .i64 0, .int .i64 0, .int .i64 0, .int .u32 0]) (by simp [results, Tryd.results104, go_sem]) rfl ⟨rfl, ((Below.refl _ _).alloc (Nat.le_refl _) _).alloc (by simp) _⟩

/-- What a key is, weakened: kind and rights decide. -/
def Wk (k r : List Int) : Prop :=
  ((k.getD 0 0 = 2 ∨ k.getD 0 0 = 3) ∧ r = [k.getD 0 0, k.getD 1 0, k.getD 2 0, bits BinOp.or IntKind.i64 (k.getD 3 0) 5, k.getD 4 0]) ∨
  ((k.getD 0 0 = 0 ∨ k.getD 0 0 = 1 ∨ k.getD 0 0 = 12 ∨ k.getD 0 0 = 14) ∧ r = [k.getD 0 0, k.getD 1 0, k.getD 2 0, k.getD 3 0, k.getD 4 0]) ∨
  ((¬ k.getD 0 0 = 0 ∧ ¬ k.getD 0 0 = 1 ∧ ¬ k.getD 0 0 = 2 ∧ ¬ k.getD 0 0 = 3 ∧ ¬ k.getD 0 0 = 12 ∧ ¬ k.getD 0 0 = 14) ∧ r = [0, 0, 0, 0, 0])
theorem weaken_any (k0 k1 k2 k3 k4 : Int) (r0 r1 r2 r3 r4 : Int) (h : Hid (Wk [k0, k1, k2, k3, k4] [r0, r1, r2, r3, r4])) (w : World) :
    Calls Tryd.prog 104 #[(Value.agg #[.int .i64 k0, .int .i64 k1, .int .i64 k2, .int .i64 k3, .int .u32 k4])] w fun e w' => e = .returned (Value.agg #[.int .i64 r0, .int .i64 r1, .int .i64 r2, .int .i64 r3, .int .u32 r4]) ∧ Below w.heap.size w w' := by
  rcases h.out with ⟨hk, hr⟩ | ⟨hk, hr⟩ | ⟨hk, hr⟩
  · simp only [List.getD_cons_zero, List.getD_cons_succ, List.cons.injEq, and_true] at hk hr
    obtain ⟨rfl, rfl, rfl, rfl, rfl⟩ := hr
    exact weaken_mem _ _ _ _ _ hk w
  · simp only [List.getD_cons_zero, List.getD_cons_succ, List.cons.injEq, and_true] at hk hr
    obtain ⟨rfl, rfl, rfl, rfl, rfl⟩ := hr
    exact weaken_same _ _ _ _ _ hk w
  · simp only [List.getD_cons_zero, List.cons.injEq, and_true] at hk hr
    obtain ⟨rfl, rfl, rfl, rfl, rfl⟩ := hr
    exact weaken_void _ _ _ _ _ hk.1 hk.2.1 hk.2.2.1 hk.2.2.2.1 hk.2.2.2.2.1 hk.2.2.2.2.2 w

theorem keep1 {w w1 w2 : World} (k0 k1 k2 k3 k4 : Int) (h : Below w.heap.size w w1 ∧ w.heap.size < w1.heap.size ∧ w1.cell? ⟨w.heap.size, 0, none⟩ = some (.int .i64 k0) ∧ w1.cell? ⟨w.heap.size, 1, none⟩ = some (.int .i64 k1) ∧ w1.cell? ⟨w.heap.size, 2, none⟩ = some (.int .i64 k2) ∧ w1.cell? ⟨w.heap.size, 3, none⟩ = some (.int .i64 k3) ∧ w1.cell? ⟨w.heap.size, 4, none⟩ = some (.int .u32 k4)) (hb : Below w1.heap.size w1 w2) : Below w.heap.size w w2 ∧ w.heap.size < w2.heap.size ∧ w2.cell? ⟨w.heap.size, 0, none⟩ = some (.int .i64 k0) ∧ w2.cell? ⟨w.heap.size, 1, none⟩ = some (.int .i64 k1) ∧ w2.cell? ⟨w.heap.size, 2, none⟩ = some (.int .i64 k2) ∧ w2.cell? ⟨w.heap.size, 3, none⟩ = some (.int .i64 k3) ∧ w2.cell? ⟨w.heap.size, 4, none⟩ = some (.int .u32 k4) := by
  obtain ⟨h1, h2, h3, h4, h5, h6, h7⟩ := h
  have hc := (bcell hb).1
  have hz := hb.size
  exact ⟨h1.trans (hb.mono (by omega)), by omega, by rw [hc _ _ h2]; exact h3, by rw [hc _ _ h2]; exact h4, by rw [hc _ _ h2]; exact h5, by rw [hc _ _ h2]; exact h6, by rw [hc _ _ h2]; exact h7⟩
theorem start1 (w : World) (k0 k1 k2 k3 k4 : Int) : Below w.heap.size w (w.alloc (.cells #[.int .i64 k0, .int .i64 k1, .int .i64 k2, .int .i64 k3, .int .u32 k4] 32)).drew ∧ w.heap.size < (w.alloc (.cells #[.int .i64 k0, .int .i64 k1, .int .i64 k2, .int .i64 k3, .int .u32 k4] 32)).drew.heap.size ∧ (w.alloc (.cells #[.int .i64 k0, .int .i64 k1, .int .i64 k2, .int .i64 k3, .int .u32 k4] 32)).drew.cell? ⟨w.heap.size, 0, none⟩ = some (.int .i64 k0) ∧ (w.alloc (.cells #[.int .i64 k0, .int .i64 k1, .int .i64 k2, .int .i64 k3, .int .u32 k4] 32)).drew.cell? ⟨w.heap.size, 1, none⟩ = some (.int .i64 k1) ∧ (w.alloc (.cells #[.int .i64 k0, .int .i64 k1, .int .i64 k2, .int .i64 k3, .int .u32 k4] 32)).drew.cell? ⟨w.heap.size, 2, none⟩ = some (.int .i64 k2) ∧ (w.alloc (.cells #[.int .i64 k0, .int .i64 k1, .int .i64 k2, .int .i64 k3, .int .u32 k4] 32)).drew.cell? ⟨w.heap.size, 3, none⟩ = some (.int .i64 k3) ∧ (w.alloc (.cells #[.int .i64 k0, .int .i64 k1, .int .i64 k2, .int .i64 k3, .int .u32 k4] 32)).drew.cell? ⟨w.heap.size, 4, none⟩ = some (.int .u32 k4) :=
  ⟨((Below.refl _ _).alloc (Nat.le_refl _) _).drew, by simp, by simp, by simp, by simp, by simp, by simp⟩
theorem sensory_yes (k0 k1 k2 k3 k4 : Int) (h : Hid (Wk [k0, k1, k2, k3, k4] [k0, k1, k2, k3, k4])) (w : World) :
    Calls Tryd.prog 100 #[(Value.agg #[.int .i64 k0, .int .i64 k1, .int .i64 k2, .int .i64 k3, .int .u32 k4])] w fun e w' => e = .returned (.bool true) ∧ Below w.heap.size w w' := by
  have st := start1 w k0 k1 k2 k3 k4
  have ST := Lib.hid st
  clear st
  go_enter Tryd.func100, Tryd.ntmps100
  go_wp2
  go_region_held3 (fun w' => Below w.heap.size w w' ∧ w.heap.size < w'.heap.size ∧ w'.cell? ⟨w.heap.size, 0, none⟩ = some (.int .i64 k0) ∧ w'.cell? ⟨w.heap.size, 1, none⟩ = some (.int .i64 k1) ∧ w'.cell? ⟨w.heap.size, 2, none⟩ = some (.int .i64 k2) ∧ w'.cell? ⟨w.heap.size, 3, none⟩ = some (.int .i64 k3) ∧ w'.cell? ⟨w.heap.size, 4, none⟩ = some (.int .u32 k4)) (first | exact ST.out | exact keep1 _ _ _ _ _ (by assumption) hb)
    (first | (go_at_call 104; refine (weaken_any _ _ _ _ _ _ _ _ _ _ h _).mono ?_; rintro e w' ⟨rfl, hb⟩))
  have hS : Below w.heap.size w w' ∧ w.heap.size < w'.heap.size ∧ w'.cell? ⟨w.heap.size, 0, none⟩ = some (.int .i64 k0) ∧ w'.cell? ⟨w.heap.size, 1, none⟩ = some (.int .i64 k1) ∧ w'.cell? ⟨w.heap.size, 2, none⟩ = some (.int .i64 k2) ∧ w'.cell? ⟨w.heap.size, 3, none⟩ = some (.int .i64 k3) ∧ w'.cell? ⟨w.heap.size, 4, none⟩ = some (.int .u32 k4) := by assumption
  obtain ⟨hB, -⟩ := hS
  go_wp2
  go_ret
  exact ⟨rfl, hB⟩
end Go.Proofs.YtahhnfhnlffmpaaDoor
namespace Go.Proofs.YtahhnfhnlffmpaaDoor
open Go.ChangeShapes Go.WideShapes Go.ChangeAt Go.RowKit
set_option linter.unusedVariables false
theorem same_is (a0 a1 a2 a3 a4 : Int) (b0 b1 b2 b3 b4 : Int) (t : Bool) (h : Hid (sameB a0 a1 a2 a3 a4 b0 b1 b2 b3 b4 = t)) (w : World) :
    Calls Tryd.prog 20 #[(Value.agg #[.int .i64 a0, .int .i64 a1, .int .i64 a2, .int .i64 a3, .int .u32 a4]), (Value.agg #[.int .i64 b0, .int .i64 b1, .int .i64 b2, .int .i64 b3, .int .u32 b4])] w fun e w' => e = .returned (.bool t) ∧ Below w.heap.size w w' := by
  rw [← h.out]; exact samekey_any a0 a1 a2 a3 a4 b0 b1 b2 b3 b4 w
theorem same_self (a0 a1 a2 a3 a4 : Int) : Hid (sameB a0 a1 a2 a3 a4 a0 a1 a2 a3 a4 = true) := Lib.hid (by simp [sameB])
end Go.Proofs.YtahhnfhnlffmpaaDoor
namespace Go.Proofs.YtahhnfhnlffmpaaDoor
open Go.ChangeShapes Go.WideShapes Go.ChangeAt Go.RowKit
set_option linter.unusedVariables false
/-- Rights taken away, one by one; other numbers do nothing. -/
def lessOne (r x : Int) : Int := if x = 1 ∨ x = 2 ∨ x = 4 then bits BinOp.or IntKind.i64 r x else r
def lessR (r : Int) (l : List Int) : Int := l.foldl lessOne r
theorem lessR_snoc (r : Int) (l : List Int) (x : Int) : lessR r (l ++ [x]) = lessOne (lessR r l) x := by simp [lessR, List.foldl_append]
theorem take_snoc (xs : List Int) (k : Nat) (h : k < xs.length) : xs.take (k + 1) = xs.take k ++ [xs.getD k 0] := by
  rw [List.take_succ_eq_append_getElem h]; simp [List.getD, h]

/-- A slice of numbers whose elements are xs. -/
structure RowI (w : World) (a : Option Addr) (len : Nat) (xs : List Int) : Prop where
  len_eq : xs.length = len
  cells : len = 0 ∨ ∃ b off, a = some ⟨b, off, none⟩ ∧ b < w.heap.size ∧ ∀ i, i < len → w.cell? ⟨b, off + i, none⟩ = some (.int .i64 (xs.getD i 0))

/-- The worlds within Less: the key's box, the answer's place. -/
structure LRs (w wr : World) (k0 k1 k2 R k4 : Int) : Prop where
  bel : Below w.heap.size w wr
  size : w.heap.size + 1 < wr.heap.size
  box : wr.cell? ⟨w.heap.size, 0, none⟩ = some (.int .i64 k0) ∧ wr.cell? ⟨w.heap.size, 1, none⟩ = some (.int .i64 k1) ∧ wr.cell? ⟨w.heap.size, 2, none⟩ = some (.int .i64 k2) ∧ wr.cell? ⟨w.heap.size, 3, none⟩ = some (.int .i64 R) ∧ wr.cell? ⟨w.heap.size, 4, none⟩ = some (.int .u32 k4)
  out : ∀ i, i < 5 → ∃ v, wr.cell? ⟨w.heap.size + 1, i, none⟩ = some v
  fr : ∀ i, wr.frozen? ⟨w.heap.size, i, none⟩ = false
  fr1 : ∀ i, wr.frozen? ⟨w.heap.size + 1, i, none⟩ = false
theorem LRs.start (w w1 : World) (k0 k1 k2 k3 k4 : Int)
    (hb : Below ((w.alloc (.cells #[.int .i64 k0, .int .i64 k1, .int .i64 k2, .int .i64 k3, .int .u32 k4] 32)).alloc (.cells #[.int .i64 0, .int .i64 0, .int .i64 0, .int .i64 0, .int .u32 0] 32)).heap.size ((w.alloc (.cells #[.int .i64 k0, .int .i64 k1, .int .i64 k2, .int .i64 k3, .int .u32 k4] 32)).alloc (.cells #[.int .i64 0, .int .i64 0, .int .i64 0, .int .i64 0, .int .u32 0] 32)) w1) : LRs w w1 k0 k1 k2 k3 k4 := by
  have hc := (bcell hb).1
  have hf := (bcell hb).2
  have hz := hb.size
  simp at hz
  refine ⟨Below.trans (((Below.refl _ _).alloc (Nat.le_refl _) _).alloc (by simp) _) (hb.mono (by simp; omega)), by omega, ?_, fun i hi => ?_, fun i => ?_, fun i => ?_⟩
  · refine ⟨?_, ?_, ?_, ?_, ?_⟩ <;> (rw [hc _ _ (by simp; omega)]; simp)
  · rw [hc _ _ (by simp)]
    match i, hi with
    | 0, _ => exact ⟨_, by simp; rfl⟩
    | 1, _ => exact ⟨_, by simp; rfl⟩
    | 2, _ => exact ⟨_, by simp; rfl⟩
    | 3, _ => exact ⟨_, by simp; rfl⟩
    | 4, _ => exact ⟨_, by simp; rfl⟩
  · rw [hf _ _ (by simp; omega)]; simp
  · rw [hf _ _ (by simp)]; simp
theorem LRs.set {w wr : World} {k0 k1 k2 R k4 : Int} (h : LRs w wr k0 k1 k2 R k4) (x : Int) : LRs w (wr.setCell ⟨w.heap.size, 3, none⟩ (.int .i64 x)) k0 k1 k2 x k4 := by
  obtain ⟨h1, h2, ⟨a0, a1, a2, a3, a4⟩, h4, h5, h6⟩ := h
  refine ⟨h1.setCell (by simp) _, by simpa [World.setCell] using h2, ?_, fun i hi => ?_, fun i => ?_, fun i => ?_⟩
  · refine ⟨?_, ?_, ?_, ?_, ?_⟩
    · rw [World.cell?_setCell_other _ _ _ _ (by simp)]; exact a0
    · rw [World.cell?_setCell_other _ _ _ _ (by simp)]; exact a1
    · rw [World.cell?_setCell_other _ _ _ _ (by simp)]; exact a2
    · exact World.cell?_setCell_same wr _ _ a3
    · rw [World.cell?_setCell_other _ _ _ _ (by simp)]; exact a4
  · rw [World.cell?_setCell_other _ _ _ _ (by simp)]; exact h4 i hi
  · rw [World.frozen?_setCell]; exact h5 i
  · rw [World.frozen?_setCell]; exact h6 i
def lessK (k0 k3 : Int) (l : List Int) : Int := if k0 = 2 ∨ k0 = 3 then lessR k3 l else k3
theorem RowI.new3 (W : World) (p q r : Int) : RowI (W.alloc (.cells #[.int .i64 p, .int .i64 q, .int .i64 r] 3)) (some ⟨W.heap.size, 0, none⟩) 3 [p, q, r] := by
  refine ⟨rfl, .inr ⟨W.heap.size, 0, rfl, by simp, fun i hi => ?_⟩⟩
  match i, hi with
  | 0, _ => simp
  | 1, _ => simp
  | 2, _ => simp
end Go.Proofs.YtahhnfhnlffmpaaDoor
namespace Go.Proofs.YtahhnfhnlffmpaaDoor
open Go.ChangeShapes Go.WideShapes Go.ChangeAt Go.RowKit
set_option linter.unusedVariables false
def manyOf (k : Int) : Int := if k = 2 ∨ k = 3 then 256 else if k = 8 then 64 else if k = 4 ∨ k = 5 ∨ k = 6 ∨ k = 7 ∨ k = 9 ∨ k = 10 then 32 else 1
theorem many_any (k : Int) (w : World) : Calls Tryd.prog 56 #[.int .i64 k] w fun e w' => e = .returned (.int .i64 (manyOf k)) ∧ w = w' := by
  by_cases h : k = 2 ∨ k = 3 ∨ k = 4 ∨ k = 5 ∨ k = 6 ∨ k = 7 ∨ k = 8 ∨ k = 9 ∨ k = 10
  · rcases h with rfl | rfl | rfl | rfl | rfl | rfl | rfl | rfl | rfl
    all_goals
      go_enter Tryd.func56, Tryd.ntmps56
      go_wp2
      go_ret
      exact ⟨rfl, rfl⟩
  · have h2 : ¬ k = 2 := by omega
    have h3 : ¬ k = 3 := by omega
    have h4 : ¬ k = 4 := by omega
    have h5 : ¬ k = 5 := by omega
    have h6 : ¬ k = 6 := by omega
    have h7 : ¬ k = 7 := by omega
    have h8 : ¬ k = 8 := by omega
    have h9 : ¬ k = 9 := by omega
    have h10 : ¬ k = 10 := by omega
    have e : manyOf k = 1 := by simp [manyOf, h2, h3, h4, h5, h6, h7, h8, h9, h10]
    rw [e]
    clear h e
    go_enter Tryd.func56, Tryd.ntmps56
    go_wp2
    go_ret
    exact ⟨rfl, rfl⟩
theorem many_is (k m : Int) (h : Hid (manyOf k = m)) (w : World) : Calls Tryd.prog 56 #[.int .i64 k] w fun e w' => e = .returned (.int .i64 m) ∧ w = w' := by
  rw [← h.out]; exact many_any k w
theorem quiet_left {P : Program} {f : FuncId} {args : Array Value} {w : World} {n : Nat} {v : Value}
    (h : Calls P f args (w.drewN n) fun e w' => e = .returned v ∧ w.drewN n = w') : Calls P f args (w.drewN n) fun e w'' => e = .returned v ∧ ∃ m, w'' = w.drewN m :=
  h.mono fun _ _ ⟨he, hm⟩ => ⟨he, n, hm.symm⟩

theorem valid_kind0 (k0 k1 k2 k3 k4 : Int) (h : k0 < 0) (w : World) :
    Calls Tryd.prog 14 #[(Value.agg #[.int .i64 k0, .int .i64 k1, .int .i64 k2, .int .i64 k3, .int .u32 k4])] w fun e w' => e = .returned (.int .i64 102) ∧ Below w.heap.size w w' := by
  go_enter Tryd.func14, Tryd.ntmps14
  go_wp2
  go_ret
  exact ⟨rfl, (Below.refl _ _).alloc (Nat.le_refl _) _⟩
theorem valid_kind1 (k0 k1 k2 k3 k4 : Int) (h : 14 < k0) (w : World) :
    Calls Tryd.prog 14 #[(Value.agg #[.int .i64 k0, .int .i64 k1, .int .i64 k2, .int .i64 k3, .int .u32 k4])] w fun e w' => e = .returned (.int .i64 102) ∧ Below w.heap.size w w' := by
  have e0 : decide (k0 < 0) = false := by rw [decide_eq_false_iff_not]; omega
  go_enter Tryd.func14, Tryd.ntmps14
  go_wp2
  go_ret
  exact ⟨rfl, (Below.refl _ _).alloc (Nat.le_refl _) _⟩
end Go.Proofs.YtahhnfhnlffmpaaDoor
namespace Go.Proofs.YtahhnfhnlffmpaaDoor
open Go.ChangeShapes Go.WideShapes Go.ChangeAt Go.RowKit
set_option linter.unusedVariables false
set_option maxHeartbeats 1000000 in
theorem valid_1_ok (k1 k2 k3 k4 : Int) (hm : Hid (manyOf 1 = 1)) (g1 : 0 ≤ k1) (g2 : k1 < 1) (g3 : 0 ≤ k2) (g4 : k2 ≤ 0) (g5 : 0 ≤ k3) (g6 : k3 ≤ 0) (g7 : k4 ≤ 4294967295) (w : World) :
    Calls Tryd.prog 14 #[Value.agg #[.int .i64 1, .int .i64 k1, .int .i64 k2, .int .i64 k3, .int .u32 k4]] w fun e w' => e = .returned (.int .i64 0) ∧ Below w.heap.size w w' := by
  have d0 : decide (k1 < 0) = false := by rw [decide_eq_false_iff_not]; omega
  have d1 : decide (1 ≤ k1) = false := by rw [decide_eq_false_iff_not]; omega
  have d2 : decide (k2 < 0) = false := by rw [decide_eq_false_iff_not]; omega
  have d3 : decide (0 < k2) = false := by rw [decide_eq_false_iff_not]; omega
  have d4 : decide (k3 < 0) = false := by rw [decide_eq_false_iff_not]; omega
  have d5 : decide (0 < k3) = false := by rw [decide_eq_false_iff_not]; omega
  have d6 : decide (4294967295 < k4) = false := by rw [decide_eq_false_iff_not]; omega
  go_enter Tryd.func14, Tryd.ntmps14
  go_wp2_with (first | (go_at_call 56; refine (many_is _ _ hm _).mono ?_; rintro e w' ⟨rfl, rfl⟩))
  go_quiet ((go_at_call 56; exact quiet_left (many_is _ _ hm _)))
  go_wp2
  go_ret
  exact ⟨rfl, below_drewN ((Below.refl _ _).alloc (Nat.le_refl _) _) _⟩
set_option maxHeartbeats 1000000 in
theorem valid_1_b0 (k1 k2 k3 k4 : Int) (hm : Hid (manyOf 1 = 1))  (g : ¬ 0 ≤ k1) (w : World) :
    Calls Tryd.prog 14 #[Value.agg #[.int .i64 1, .int .i64 k1, .int .i64 k2, .int .i64 k3, .int .u32 k4]] w fun e w' => e = .returned (.int .i64 103) ∧ Below w.heap.size w w' := by
  have d0 : decide (k1 < 0) = true := by rw [decide_eq_true_iff]; omega
  go_enter Tryd.func14, Tryd.ntmps14
  go_wp2_with (first | (go_at_call 56; refine (many_is _ _ hm _).mono ?_; rintro e w' ⟨rfl, rfl⟩))
  go_quiet ((go_at_call 56; exact quiet_left (many_is _ _ hm _)))
  go_wp2
  go_ret
  exact ⟨rfl, below_drewN ((Below.refl _ _).alloc (Nat.le_refl _) _) _⟩
set_option maxHeartbeats 1000000 in
theorem valid_1_b1 (k1 k2 k3 k4 : Int) (hm : Hid (manyOf 1 = 1)) (g0 : 0 ≤ k1) (g : ¬ k1 < 1) (w : World) :
    Calls Tryd.prog 14 #[Value.agg #[.int .i64 1, .int .i64 k1, .int .i64 k2, .int .i64 k3, .int .u32 k4]] w fun e w' => e = .returned (.int .i64 103) ∧ Below w.heap.size w w' := by
  have d0 : decide (k1 < 0) = false := by rw [decide_eq_false_iff_not]; omega
  have d1 : decide (1 ≤ k1) = true := by rw [decide_eq_true_iff]; omega
  go_enter Tryd.func14, Tryd.ntmps14
  go_wp2_with (first | (go_at_call 56; refine (many_is _ _ hm _).mono ?_; rintro e w' ⟨rfl, rfl⟩))
  go_quiet ((go_at_call 56; exact quiet_left (many_is _ _ hm _)))
  go_wp2
  go_ret
  exact ⟨rfl, below_drewN ((Below.refl _ _).alloc (Nat.le_refl _) _) _⟩
set_option maxHeartbeats 1000000 in
theorem valid_1_b2 (k1 k2 k3 k4 : Int) (hm : Hid (manyOf 1 = 1)) (g0 : 0 ≤ k1) (g1 : k1 < 1) (g : ¬ 0 ≤ k2) (w : World) :
    Calls Tryd.prog 14 #[Value.agg #[.int .i64 1, .int .i64 k1, .int .i64 k2, .int .i64 k3, .int .u32 k4]] w fun e w' => e = .returned (.int .i64 103) ∧ Below w.heap.size w w' := by
  have d0 : decide (k1 < 0) = false := by rw [decide_eq_false_iff_not]; omega
  have d1 : decide (1 ≤ k1) = false := by rw [decide_eq_false_iff_not]; omega
  have d2 : decide (k2 < 0) = true := by rw [decide_eq_true_iff]; omega
  go_enter Tryd.func14, Tryd.ntmps14
  go_wp2_with (first | (go_at_call 56; refine (many_is _ _ hm _).mono ?_; rintro e w' ⟨rfl, rfl⟩))
  go_quiet ((go_at_call 56; exact quiet_left (many_is _ _ hm _)))
  go_wp2
  go_ret
  exact ⟨rfl, below_drewN ((Below.refl _ _).alloc (Nat.le_refl _) _) _⟩
set_option maxHeartbeats 1000000 in
theorem valid_1_b3 (k1 k2 k3 k4 : Int) (hm : Hid (manyOf 1 = 1)) (g0 : 0 ≤ k1) (g1 : k1 < 1) (g2 : 0 ≤ k2) (g : ¬ k2 ≤ 0) (w : World) :
    Calls Tryd.prog 14 #[Value.agg #[.int .i64 1, .int .i64 k1, .int .i64 k2, .int .i64 k3, .int .u32 k4]] w fun e w' => e = .returned (.int .i64 103) ∧ Below w.heap.size w w' := by
  have d0 : decide (k1 < 0) = false := by rw [decide_eq_false_iff_not]; omega
  have d1 : decide (1 ≤ k1) = false := by rw [decide_eq_false_iff_not]; omega
  have d2 : decide (k2 < 0) = false := by rw [decide_eq_false_iff_not]; omega
  have d3 : decide (0 < k2) = true := by rw [decide_eq_true_iff]; omega
  go_enter Tryd.func14, Tryd.ntmps14
  go_wp2_with (first | (go_at_call 56; refine (many_is _ _ hm _).mono ?_; rintro e w' ⟨rfl, rfl⟩))
  go_quiet ((go_at_call 56; exact quiet_left (many_is _ _ hm _)))
  go_wp2
  go_ret
  exact ⟨rfl, below_drewN ((Below.refl _ _).alloc (Nat.le_refl _) _) _⟩
set_option maxHeartbeats 1000000 in
theorem valid_1_b4 (k1 k2 k3 k4 : Int) (hm : Hid (manyOf 1 = 1)) (g0 : 0 ≤ k1) (g1 : k1 < 1) (g2 : 0 ≤ k2) (g3 : k2 ≤ 0) (g : ¬ 0 ≤ k3) (w : World) :
    Calls Tryd.prog 14 #[Value.agg #[.int .i64 1, .int .i64 k1, .int .i64 k2, .int .i64 k3, .int .u32 k4]] w fun e w' => e = .returned (.int .i64 103) ∧ Below w.heap.size w w' := by
  have d0 : decide (k1 < 0) = false := by rw [decide_eq_false_iff_not]; omega
  have d1 : decide (1 ≤ k1) = false := by rw [decide_eq_false_iff_not]; omega
  have d2 : decide (k2 < 0) = false := by rw [decide_eq_false_iff_not]; omega
  have d3 : decide (0 < k2) = false := by rw [decide_eq_false_iff_not]; omega
  have d4 : decide (k3 < 0) = true := by rw [decide_eq_true_iff]; omega
  go_enter Tryd.func14, Tryd.ntmps14
  go_wp2_with (first | (go_at_call 56; refine (many_is _ _ hm _).mono ?_; rintro e w' ⟨rfl, rfl⟩))
  go_quiet ((go_at_call 56; exact quiet_left (many_is _ _ hm _)))
  go_wp2
  go_ret
  exact ⟨rfl, below_drewN ((Below.refl _ _).alloc (Nat.le_refl _) _) _⟩
set_option maxHeartbeats 1000000 in
theorem valid_1_b5 (k1 k2 k3 k4 : Int) (hm : Hid (manyOf 1 = 1)) (g0 : 0 ≤ k1) (g1 : k1 < 1) (g2 : 0 ≤ k2) (g3 : k2 ≤ 0) (g4 : 0 ≤ k3) (g : ¬ k3 ≤ 0) (w : World) :
    Calls Tryd.prog 14 #[Value.agg #[.int .i64 1, .int .i64 k1, .int .i64 k2, .int .i64 k3, .int .u32 k4]] w fun e w' => e = .returned (.int .i64 103) ∧ Below w.heap.size w w' := by
  have d0 : decide (k1 < 0) = false := by rw [decide_eq_false_iff_not]; omega
  have d1 : decide (1 ≤ k1) = false := by rw [decide_eq_false_iff_not]; omega
  have d2 : decide (k2 < 0) = false := by rw [decide_eq_false_iff_not]; omega
  have d3 : decide (0 < k2) = false := by rw [decide_eq_false_iff_not]; omega
  have d4 : decide (k3 < 0) = false := by rw [decide_eq_false_iff_not]; omega
  have d5 : decide (0 < k3) = true := by rw [decide_eq_true_iff]; omega
  go_enter Tryd.func14, Tryd.ntmps14
  go_wp2_with (first | (go_at_call 56; refine (many_is _ _ hm _).mono ?_; rintro e w' ⟨rfl, rfl⟩))
  go_quiet ((go_at_call 56; exact quiet_left (many_is _ _ hm _)))
  go_wp2
  go_ret
  exact ⟨rfl, below_drewN ((Below.refl _ _).alloc (Nat.le_refl _) _) _⟩
set_option maxHeartbeats 1000000 in
theorem valid_1_b6 (k1 k2 k3 k4 : Int) (hm : Hid (manyOf 1 = 1)) (g0 : 0 ≤ k1) (g1 : k1 < 1) (g2 : 0 ≤ k2) (g3 : k2 ≤ 0) (g4 : 0 ≤ k3) (g5 : k3 ≤ 0) (g : ¬ k4 ≤ 4294967295) (gu : k4 ≤ 4294967295) (w : World) :
    Calls Tryd.prog 14 #[Value.agg #[.int .i64 1, .int .i64 k1, .int .i64 k2, .int .i64 k3, .int .u32 k4]] w fun e w' => e = .returned (.int .i64 103) ∧ Below w.heap.size w w' := by
  omega
set_option maxHeartbeats 1000000 in
theorem valid_2_ok (k1 k2 k3 k4 : Int) (hm : Hid (manyOf 2 = 256)) (g1 : 0 ≤ k1) (g2 : k1 < 256) (g3 : 0 ≤ k2) (g4 : k2 ≤ 1048575) (g5 : 0 ≤ k3) (g6 : k3 ≤ 7) (g7 : k4 ≤ 4) (w : World) :
    Calls Tryd.prog 14 #[Value.agg #[.int .i64 2, .int .i64 k1, .int .i64 k2, .int .i64 k3, .int .u32 k4]] w fun e w' => e = .returned (.int .i64 0) ∧ Below w.heap.size w w' := by
  have d0 : decide (k1 < 0) = false := by rw [decide_eq_false_iff_not]; omega
  have d1 : decide (256 ≤ k1) = false := by rw [decide_eq_false_iff_not]; omega
  have d2 : decide (k2 < 0) = false := by rw [decide_eq_false_iff_not]; omega
  have d3 : decide (1048575 < k2) = false := by rw [decide_eq_false_iff_not]; omega
  have d4 : decide (k3 < 0) = false := by rw [decide_eq_false_iff_not]; omega
  have d5 : decide (7 < k3) = false := by rw [decide_eq_false_iff_not]; omega
  have d6 : decide (4 < k4) = false := by rw [decide_eq_false_iff_not]; omega
  go_enter Tryd.func14, Tryd.ntmps14
  go_wp2_with (first | (go_at_call 56; refine (many_is _ _ hm _).mono ?_; rintro e w' ⟨rfl, rfl⟩))
  go_quiet ((go_at_call 56; exact quiet_left (many_is _ _ hm _)))
  go_wp2
  go_ret
  exact ⟨rfl, below_drewN ((Below.refl _ _).alloc (Nat.le_refl _) _) _⟩
set_option maxHeartbeats 1000000 in
theorem valid_2_b0 (k1 k2 k3 k4 : Int) (hm : Hid (manyOf 2 = 256))  (g : ¬ 0 ≤ k1) (w : World) :
    Calls Tryd.prog 14 #[Value.agg #[.int .i64 2, .int .i64 k1, .int .i64 k2, .int .i64 k3, .int .u32 k4]] w fun e w' => e = .returned (.int .i64 103) ∧ Below w.heap.size w w' := by
  have d0 : decide (k1 < 0) = true := by rw [decide_eq_true_iff]; omega
  go_enter Tryd.func14, Tryd.ntmps14
  go_wp2_with (first | (go_at_call 56; refine (many_is _ _ hm _).mono ?_; rintro e w' ⟨rfl, rfl⟩))
  go_quiet ((go_at_call 56; exact quiet_left (many_is _ _ hm _)))
  go_wp2
  go_ret
  exact ⟨rfl, below_drewN ((Below.refl _ _).alloc (Nat.le_refl _) _) _⟩
set_option maxHeartbeats 1000000 in
theorem valid_2_b1 (k1 k2 k3 k4 : Int) (hm : Hid (manyOf 2 = 256)) (g0 : 0 ≤ k1) (g : ¬ k1 < 256) (w : World) :
    Calls Tryd.prog 14 #[Value.agg #[.int .i64 2, .int .i64 k1, .int .i64 k2, .int .i64 k3, .int .u32 k4]] w fun e w' => e = .returned (.int .i64 103) ∧ Below w.heap.size w w' := by
  have d0 : decide (k1 < 0) = false := by rw [decide_eq_false_iff_not]; omega
  have d1 : decide (256 ≤ k1) = true := by rw [decide_eq_true_iff]; omega
  go_enter Tryd.func14, Tryd.ntmps14
  go_wp2_with (first | (go_at_call 56; refine (many_is _ _ hm _).mono ?_; rintro e w' ⟨rfl, rfl⟩))
  go_quiet ((go_at_call 56; exact quiet_left (many_is _ _ hm _)))
  go_wp2
  go_ret
  exact ⟨rfl, below_drewN ((Below.refl _ _).alloc (Nat.le_refl _) _) _⟩
set_option maxHeartbeats 1000000 in
theorem valid_2_b2 (k1 k2 k3 k4 : Int) (hm : Hid (manyOf 2 = 256)) (g0 : 0 ≤ k1) (g1 : k1 < 256) (g : ¬ 0 ≤ k2) (w : World) :
    Calls Tryd.prog 14 #[Value.agg #[.int .i64 2, .int .i64 k1, .int .i64 k2, .int .i64 k3, .int .u32 k4]] w fun e w' => e = .returned (.int .i64 103) ∧ Below w.heap.size w w' := by
  have d0 : decide (k1 < 0) = false := by rw [decide_eq_false_iff_not]; omega
  have d1 : decide (256 ≤ k1) = false := by rw [decide_eq_false_iff_not]; omega
  have d2 : decide (k2 < 0) = true := by rw [decide_eq_true_iff]; omega
  go_enter Tryd.func14, Tryd.ntmps14
  go_wp2_with (first | (go_at_call 56; refine (many_is _ _ hm _).mono ?_; rintro e w' ⟨rfl, rfl⟩))
  go_quiet ((go_at_call 56; exact quiet_left (many_is _ _ hm _)))
  go_wp2
  go_ret
  exact ⟨rfl, below_drewN ((Below.refl _ _).alloc (Nat.le_refl _) _) _⟩
set_option maxHeartbeats 1000000 in
theorem valid_2_b3 (k1 k2 k3 k4 : Int) (hm : Hid (manyOf 2 = 256)) (g0 : 0 ≤ k1) (g1 : k1 < 256) (g2 : 0 ≤ k2) (g : ¬ k2 ≤ 1048575) (w : World) :
    Calls Tryd.prog 14 #[Value.agg #[.int .i64 2, .int .i64 k1, .int .i64 k2, .int .i64 k3, .int .u32 k4]] w fun e w' => e = .returned (.int .i64 103) ∧ Below w.heap.size w w' := by
  have d0 : decide (k1 < 0) = false := by rw [decide_eq_false_iff_not]; omega
  have d1 : decide (256 ≤ k1) = false := by rw [decide_eq_false_iff_not]; omega
  have d2 : decide (k2 < 0) = false := by rw [decide_eq_false_iff_not]; omega
  have d3 : decide (1048575 < k2) = true := by rw [decide_eq_true_iff]; omega
  go_enter Tryd.func14, Tryd.ntmps14
  go_wp2_with (first | (go_at_call 56; refine (many_is _ _ hm _).mono ?_; rintro e w' ⟨rfl, rfl⟩))
  go_quiet ((go_at_call 56; exact quiet_left (many_is _ _ hm _)))
  go_wp2
  go_ret
  exact ⟨rfl, below_drewN ((Below.refl _ _).alloc (Nat.le_refl _) _) _⟩
set_option maxHeartbeats 1000000 in
theorem valid_2_b4 (k1 k2 k3 k4 : Int) (hm : Hid (manyOf 2 = 256)) (g0 : 0 ≤ k1) (g1 : k1 < 256) (g2 : 0 ≤ k2) (g3 : k2 ≤ 1048575) (g : ¬ 0 ≤ k3) (w : World) :
    Calls Tryd.prog 14 #[Value.agg #[.int .i64 2, .int .i64 k1, .int .i64 k2, .int .i64 k3, .int .u32 k4]] w fun e w' => e = .returned (.int .i64 103) ∧ Below w.heap.size w w' := by
  have d0 : decide (k1 < 0) = false := by rw [decide_eq_false_iff_not]; omega
  have d1 : decide (256 ≤ k1) = false := by rw [decide_eq_false_iff_not]; omega
  have d2 : decide (k2 < 0) = false := by rw [decide_eq_false_iff_not]; omega
  have d3 : decide (1048575 < k2) = false := by rw [decide_eq_false_iff_not]; omega
  have d4 : decide (k3 < 0) = true := by rw [decide_eq_true_iff]; omega
  go_enter Tryd.func14, Tryd.ntmps14
  go_wp2_with (first | (go_at_call 56; refine (many_is _ _ hm _).mono ?_; rintro e w' ⟨rfl, rfl⟩))
  go_quiet ((go_at_call 56; exact quiet_left (many_is _ _ hm _)))
  go_wp2
  go_ret
  exact ⟨rfl, below_drewN ((Below.refl _ _).alloc (Nat.le_refl _) _) _⟩
set_option maxHeartbeats 1000000 in
theorem valid_2_b5 (k1 k2 k3 k4 : Int) (hm : Hid (manyOf 2 = 256)) (g0 : 0 ≤ k1) (g1 : k1 < 256) (g2 : 0 ≤ k2) (g3 : k2 ≤ 1048575) (g4 : 0 ≤ k3) (g : ¬ k3 ≤ 7) (w : World) :
    Calls Tryd.prog 14 #[Value.agg #[.int .i64 2, .int .i64 k1, .int .i64 k2, .int .i64 k3, .int .u32 k4]] w fun e w' => e = .returned (.int .i64 103) ∧ Below w.heap.size w w' := by
  have d0 : decide (k1 < 0) = false := by rw [decide_eq_false_iff_not]; omega
  have d1 : decide (256 ≤ k1) = false := by rw [decide_eq_false_iff_not]; omega
  have d2 : decide (k2 < 0) = false := by rw [decide_eq_false_iff_not]; omega
  have d3 : decide (1048575 < k2) = false := by rw [decide_eq_false_iff_not]; omega
  have d4 : decide (k3 < 0) = false := by rw [decide_eq_false_iff_not]; omega
  have d5 : decide (7 < k3) = true := by rw [decide_eq_true_iff]; omega
  go_enter Tryd.func14, Tryd.ntmps14
  go_wp2_with (first | (go_at_call 56; refine (many_is _ _ hm _).mono ?_; rintro e w' ⟨rfl, rfl⟩))
  go_quiet ((go_at_call 56; exact quiet_left (many_is _ _ hm _)))
  go_wp2
  go_ret
  exact ⟨rfl, below_drewN ((Below.refl _ _).alloc (Nat.le_refl _) _) _⟩
set_option maxHeartbeats 1000000 in
theorem valid_2_b6 (k1 k2 k3 k4 : Int) (hm : Hid (manyOf 2 = 256)) (g0 : 0 ≤ k1) (g1 : k1 < 256) (g2 : 0 ≤ k2) (g3 : k2 ≤ 1048575) (g4 : 0 ≤ k3) (g5 : k3 ≤ 7) (g : ¬ k4 ≤ 4) (w : World) :
    Calls Tryd.prog 14 #[Value.agg #[.int .i64 2, .int .i64 k1, .int .i64 k2, .int .i64 k3, .int .u32 k4]] w fun e w' => e = .returned (.int .i64 103) ∧ Below w.heap.size w w' := by
  have d0 : decide (k1 < 0) = false := by rw [decide_eq_false_iff_not]; omega
  have d1 : decide (256 ≤ k1) = false := by rw [decide_eq_false_iff_not]; omega
  have d2 : decide (k2 < 0) = false := by rw [decide_eq_false_iff_not]; omega
  have d3 : decide (1048575 < k2) = false := by rw [decide_eq_false_iff_not]; omega
  have d4 : decide (k3 < 0) = false := by rw [decide_eq_false_iff_not]; omega
  have d5 : decide (7 < k3) = false := by rw [decide_eq_false_iff_not]; omega
  have d6 : decide (4 < k4) = true := by rw [decide_eq_true_iff]; omega
  go_enter Tryd.func14, Tryd.ntmps14
  go_wp2_with (first | (go_at_call 56; refine (many_is _ _ hm _).mono ?_; rintro e w' ⟨rfl, rfl⟩))
  go_quiet ((go_at_call 56; exact quiet_left (many_is _ _ hm _)))
  go_wp2
  go_ret
  exact ⟨rfl, below_drewN ((Below.refl _ _).alloc (Nat.le_refl _) _) _⟩
end Go.Proofs.YtahhnfhnlffmpaaDoor
namespace Go.Proofs.YtahhnfhnlffmpaaDoor
open Go.ChangeShapes Go.WideShapes Go.ChangeAt Go.RowKit
set_option linter.unusedVariables false
set_option maxHeartbeats 1000000 in
theorem valid_3_ok (k1 k2 k3 k4 : Int) (hm : Hid (manyOf 3 = 256)) (g1 : 0 ≤ k1) (g2 : k1 < 256) (g3 : 0 ≤ k2) (g4 : k2 ≤ 1048575) (g5 : 0 ≤ k3) (g6 : k3 ≤ 7) (g7 : k4 ≤ 0) (w : World) :
    Calls Tryd.prog 14 #[Value.agg #[.int .i64 3, .int .i64 k1, .int .i64 k2, .int .i64 k3, .int .u32 k4]] w fun e w' => e = .returned (.int .i64 0) ∧ Below w.heap.size w w' := by
  have d0 : decide (k1 < 0) = false := by rw [decide_eq_false_iff_not]; omega
  have d1 : decide (256 ≤ k1) = false := by rw [decide_eq_false_iff_not]; omega
  have d2 : decide (k2 < 0) = false := by rw [decide_eq_false_iff_not]; omega
  have d3 : decide (1048575 < k2) = false := by rw [decide_eq_false_iff_not]; omega
  have d4 : decide (k3 < 0) = false := by rw [decide_eq_false_iff_not]; omega
  have d5 : decide (7 < k3) = false := by rw [decide_eq_false_iff_not]; omega
  have d6 : decide (0 < k4) = false := by rw [decide_eq_false_iff_not]; omega
  go_enter Tryd.func14, Tryd.ntmps14
  go_wp2_with (first | (go_at_call 56; refine (many_is _ _ hm _).mono ?_; rintro e w' ⟨rfl, rfl⟩))
  go_quiet ((go_at_call 56; exact quiet_left (many_is _ _ hm _)))
  go_wp2
  go_ret
  exact ⟨rfl, below_drewN ((Below.refl _ _).alloc (Nat.le_refl _) _) _⟩
set_option maxHeartbeats 1000000 in
theorem valid_3_b0 (k1 k2 k3 k4 : Int) (hm : Hid (manyOf 3 = 256))  (g : ¬ 0 ≤ k1) (w : World) :
    Calls Tryd.prog 14 #[Value.agg #[.int .i64 3, .int .i64 k1, .int .i64 k2, .int .i64 k3, .int .u32 k4]] w fun e w' => e = .returned (.int .i64 103) ∧ Below w.heap.size w w' := by
  have d0 : decide (k1 < 0) = true := by rw [decide_eq_true_iff]; omega
  go_enter Tryd.func14, Tryd.ntmps14
  go_wp2_with (first | (go_at_call 56; refine (many_is _ _ hm _).mono ?_; rintro e w' ⟨rfl, rfl⟩))
  go_quiet ((go_at_call 56; exact quiet_left (many_is _ _ hm _)))
  go_wp2
  go_ret
  exact ⟨rfl, below_drewN ((Below.refl _ _).alloc (Nat.le_refl _) _) _⟩
set_option maxHeartbeats 1000000 in
theorem valid_3_b1 (k1 k2 k3 k4 : Int) (hm : Hid (manyOf 3 = 256)) (g0 : 0 ≤ k1) (g : ¬ k1 < 256) (w : World) :
    Calls Tryd.prog 14 #[Value.agg #[.int .i64 3, .int .i64 k1, .int .i64 k2, .int .i64 k3, .int .u32 k4]] w fun e w' => e = .returned (.int .i64 103) ∧ Below w.heap.size w w' := by
  have d0 : decide (k1 < 0) = false := by rw [decide_eq_false_iff_not]; omega
  have d1 : decide (256 ≤ k1) = true := by rw [decide_eq_true_iff]; omega
  go_enter Tryd.func14, Tryd.ntmps14
  go_wp2_with (first | (go_at_call 56; refine (many_is _ _ hm _).mono ?_; rintro e w' ⟨rfl, rfl⟩))
  go_quiet ((go_at_call 56; exact quiet_left (many_is _ _ hm _)))
  go_wp2
  go_ret
  exact ⟨rfl, below_drewN ((Below.refl _ _).alloc (Nat.le_refl _) _) _⟩
set_option maxHeartbeats 1000000 in
theorem valid_3_b2 (k1 k2 k3 k4 : Int) (hm : Hid (manyOf 3 = 256)) (g0 : 0 ≤ k1) (g1 : k1 < 256) (g : ¬ 0 ≤ k2) (w : World) :
    Calls Tryd.prog 14 #[Value.agg #[.int .i64 3, .int .i64 k1, .int .i64 k2, .int .i64 k3, .int .u32 k4]] w fun e w' => e = .returned (.int .i64 103) ∧ Below w.heap.size w w' := by
  have d0 : decide (k1 < 0) = false := by rw [decide_eq_false_iff_not]; omega
  have d1 : decide (256 ≤ k1) = false := by rw [decide_eq_false_iff_not]; omega
  have d2 : decide (k2 < 0) = true := by rw [decide_eq_true_iff]; omega
  go_enter Tryd.func14, Tryd.ntmps14
  go_wp2_with (first | (go_at_call 56; refine (many_is _ _ hm _).mono ?_; rintro e w' ⟨rfl, rfl⟩))
  go_quiet ((go_at_call 56; exact quiet_left (many_is _ _ hm _)))
  go_wp2
  go_ret
  exact ⟨rfl, below_drewN ((Below.refl _ _).alloc (Nat.le_refl _) _) _⟩
set_option maxHeartbeats 1000000 in
theorem valid_3_b3 (k1 k2 k3 k4 : Int) (hm : Hid (manyOf 3 = 256)) (g0 : 0 ≤ k1) (g1 : k1 < 256) (g2 : 0 ≤ k2) (g : ¬ k2 ≤ 1048575) (w : World) :
    Calls Tryd.prog 14 #[Value.agg #[.int .i64 3, .int .i64 k1, .int .i64 k2, .int .i64 k3, .int .u32 k4]] w fun e w' => e = .returned (.int .i64 103) ∧ Below w.heap.size w w' := by
  have d0 : decide (k1 < 0) = false := by rw [decide_eq_false_iff_not]; omega
  have d1 : decide (256 ≤ k1) = false := by rw [decide_eq_false_iff_not]; omega
  have d2 : decide (k2 < 0) = false := by rw [decide_eq_false_iff_not]; omega
  have d3 : decide (1048575 < k2) = true := by rw [decide_eq_true_iff]; omega
  go_enter Tryd.func14, Tryd.ntmps14
  go_wp2_with (first | (go_at_call 56; refine (many_is _ _ hm _).mono ?_; rintro e w' ⟨rfl, rfl⟩))
  go_quiet ((go_at_call 56; exact quiet_left (many_is _ _ hm _)))
  go_wp2
  go_ret
  exact ⟨rfl, below_drewN ((Below.refl _ _).alloc (Nat.le_refl _) _) _⟩
set_option maxHeartbeats 1000000 in
theorem valid_3_b4 (k1 k2 k3 k4 : Int) (hm : Hid (manyOf 3 = 256)) (g0 : 0 ≤ k1) (g1 : k1 < 256) (g2 : 0 ≤ k2) (g3 : k2 ≤ 1048575) (g : ¬ 0 ≤ k3) (w : World) :
    Calls Tryd.prog 14 #[Value.agg #[.int .i64 3, .int .i64 k1, .int .i64 k2, .int .i64 k3, .int .u32 k4]] w fun e w' => e = .returned (.int .i64 103) ∧ Below w.heap.size w w' := by
  have d0 : decide (k1 < 0) = false := by rw [decide_eq_false_iff_not]; omega
  have d1 : decide (256 ≤ k1) = false := by rw [decide_eq_false_iff_not]; omega
  have d2 : decide (k2 < 0) = false := by rw [decide_eq_false_iff_not]; omega
  have d3 : decide (1048575 < k2) = false := by rw [decide_eq_false_iff_not]; omega
  have d4 : decide (k3 < 0) = true := by rw [decide_eq_true_iff]; omega
  go_enter Tryd.func14, Tryd.ntmps14
  go_wp2_with (first | (go_at_call 56; refine (many_is _ _ hm _).mono ?_; rintro e w' ⟨rfl, rfl⟩))
  go_quiet ((go_at_call 56; exact quiet_left (many_is _ _ hm _)))
  go_wp2
  go_ret
  exact ⟨rfl, below_drewN ((Below.refl _ _).alloc (Nat.le_refl _) _) _⟩
set_option maxHeartbeats 1000000 in
theorem valid_3_b5 (k1 k2 k3 k4 : Int) (hm : Hid (manyOf 3 = 256)) (g0 : 0 ≤ k1) (g1 : k1 < 256) (g2 : 0 ≤ k2) (g3 : k2 ≤ 1048575) (g4 : 0 ≤ k3) (g : ¬ k3 ≤ 7) (w : World) :
    Calls Tryd.prog 14 #[Value.agg #[.int .i64 3, .int .i64 k1, .int .i64 k2, .int .i64 k3, .int .u32 k4]] w fun e w' => e = .returned (.int .i64 103) ∧ Below w.heap.size w w' := by
  have d0 : decide (k1 < 0) = false := by rw [decide_eq_false_iff_not]; omega
  have d1 : decide (256 ≤ k1) = false := by rw [decide_eq_false_iff_not]; omega
  have d2 : decide (k2 < 0) = false := by rw [decide_eq_false_iff_not]; omega
  have d3 : decide (1048575 < k2) = false := by rw [decide_eq_false_iff_not]; omega
  have d4 : decide (k3 < 0) = false := by rw [decide_eq_false_iff_not]; omega
  have d5 : decide (7 < k3) = true := by rw [decide_eq_true_iff]; omega
  go_enter Tryd.func14, Tryd.ntmps14
  go_wp2_with (first | (go_at_call 56; refine (many_is _ _ hm _).mono ?_; rintro e w' ⟨rfl, rfl⟩))
  go_quiet ((go_at_call 56; exact quiet_left (many_is _ _ hm _)))
  go_wp2
  go_ret
  exact ⟨rfl, below_drewN ((Below.refl _ _).alloc (Nat.le_refl _) _) _⟩
set_option maxHeartbeats 1000000 in
theorem valid_3_b6 (k1 k2 k3 k4 : Int) (hm : Hid (manyOf 3 = 256)) (g0 : 0 ≤ k1) (g1 : k1 < 256) (g2 : 0 ≤ k2) (g3 : k2 ≤ 1048575) (g4 : 0 ≤ k3) (g5 : k3 ≤ 7) (g : ¬ k4 ≤ 0) (w : World) :
    Calls Tryd.prog 14 #[Value.agg #[.int .i64 3, .int .i64 k1, .int .i64 k2, .int .i64 k3, .int .u32 k4]] w fun e w' => e = .returned (.int .i64 103) ∧ Below w.heap.size w w' := by
  have d0 : decide (k1 < 0) = false := by rw [decide_eq_false_iff_not]; omega
  have d1 : decide (256 ≤ k1) = false := by rw [decide_eq_false_iff_not]; omega
  have d2 : decide (k2 < 0) = false := by rw [decide_eq_false_iff_not]; omega
  have d3 : decide (1048575 < k2) = false := by rw [decide_eq_false_iff_not]; omega
  have d4 : decide (k3 < 0) = false := by rw [decide_eq_false_iff_not]; omega
  have d5 : decide (7 < k3) = false := by rw [decide_eq_false_iff_not]; omega
  have d6 : decide (0 < k4) = true := by rw [decide_eq_true_iff]; omega
  go_enter Tryd.func14, Tryd.ntmps14
  go_wp2_with (first | (go_at_call 56; refine (many_is _ _ hm _).mono ?_; rintro e w' ⟨rfl, rfl⟩))
  go_quiet ((go_at_call 56; exact quiet_left (many_is _ _ hm _)))
  go_wp2
  go_ret
  exact ⟨rfl, below_drewN ((Below.refl _ _).alloc (Nat.le_refl _) _) _⟩
set_option maxHeartbeats 1000000 in
theorem valid_5_ok (k1 k2 k3 k4 : Int) (hm : Hid (manyOf 5 = 32)) (g1 : 0 ≤ k1) (g2 : k1 < 32) (g3 : 0 ≤ k2) (g4 : k2 ≤ 1048575) (g5 : 0 ≤ k3) (g6 : k3 ≤ 0) (g7 : k4 ≤ 536870911) (w : World) :
    Calls Tryd.prog 14 #[Value.agg #[.int .i64 5, .int .i64 k1, .int .i64 k2, .int .i64 k3, .int .u32 k4]] w fun e w' => e = .returned (.int .i64 0) ∧ Below w.heap.size w w' := by
  have d0 : decide (k1 < 0) = false := by rw [decide_eq_false_iff_not]; omega
  have d1 : decide (32 ≤ k1) = false := by rw [decide_eq_false_iff_not]; omega
  have d2 : decide (k2 < 0) = false := by rw [decide_eq_false_iff_not]; omega
  have d3 : decide (1048575 < k2) = false := by rw [decide_eq_false_iff_not]; omega
  have d4 : decide (k3 < 0) = false := by rw [decide_eq_false_iff_not]; omega
  have d5 : decide (0 < k3) = false := by rw [decide_eq_false_iff_not]; omega
  have d6 : decide (536870911 < k4) = false := by rw [decide_eq_false_iff_not]; omega
  go_enter Tryd.func14, Tryd.ntmps14
  go_wp2_with (first | (go_at_call 56; refine (many_is _ _ hm _).mono ?_; rintro e w' ⟨rfl, rfl⟩))
  go_quiet ((go_at_call 56; exact quiet_left (many_is _ _ hm _)))
  go_wp2
  go_ret
  exact ⟨rfl, below_drewN ((Below.refl _ _).alloc (Nat.le_refl _) _) _⟩
set_option maxHeartbeats 1000000 in
theorem valid_5_b0 (k1 k2 k3 k4 : Int) (hm : Hid (manyOf 5 = 32))  (g : ¬ 0 ≤ k1) (w : World) :
    Calls Tryd.prog 14 #[Value.agg #[.int .i64 5, .int .i64 k1, .int .i64 k2, .int .i64 k3, .int .u32 k4]] w fun e w' => e = .returned (.int .i64 103) ∧ Below w.heap.size w w' := by
  have d0 : decide (k1 < 0) = true := by rw [decide_eq_true_iff]; omega
  go_enter Tryd.func14, Tryd.ntmps14
  go_wp2_with (first | (go_at_call 56; refine (many_is _ _ hm _).mono ?_; rintro e w' ⟨rfl, rfl⟩))
  go_quiet ((go_at_call 56; exact quiet_left (many_is _ _ hm _)))
  go_wp2
  go_ret
  exact ⟨rfl, below_drewN ((Below.refl _ _).alloc (Nat.le_refl _) _) _⟩
set_option maxHeartbeats 1000000 in
theorem valid_5_b1 (k1 k2 k3 k4 : Int) (hm : Hid (manyOf 5 = 32)) (g0 : 0 ≤ k1) (g : ¬ k1 < 32) (w : World) :
    Calls Tryd.prog 14 #[Value.agg #[.int .i64 5, .int .i64 k1, .int .i64 k2, .int .i64 k3, .int .u32 k4]] w fun e w' => e = .returned (.int .i64 103) ∧ Below w.heap.size w w' := by
  have d0 : decide (k1 < 0) = false := by rw [decide_eq_false_iff_not]; omega
  have d1 : decide (32 ≤ k1) = true := by rw [decide_eq_true_iff]; omega
  go_enter Tryd.func14, Tryd.ntmps14
  go_wp2_with (first | (go_at_call 56; refine (many_is _ _ hm _).mono ?_; rintro e w' ⟨rfl, rfl⟩))
  go_quiet ((go_at_call 56; exact quiet_left (many_is _ _ hm _)))
  go_wp2
  go_ret
  exact ⟨rfl, below_drewN ((Below.refl _ _).alloc (Nat.le_refl _) _) _⟩
set_option maxHeartbeats 1000000 in
theorem valid_5_b2 (k1 k2 k3 k4 : Int) (hm : Hid (manyOf 5 = 32)) (g0 : 0 ≤ k1) (g1 : k1 < 32) (g : ¬ 0 ≤ k2) (w : World) :
    Calls Tryd.prog 14 #[Value.agg #[.int .i64 5, .int .i64 k1, .int .i64 k2, .int .i64 k3, .int .u32 k4]] w fun e w' => e = .returned (.int .i64 103) ∧ Below w.heap.size w w' := by
  have d0 : decide (k1 < 0) = false := by rw [decide_eq_false_iff_not]; omega
  have d1 : decide (32 ≤ k1) = false := by rw [decide_eq_false_iff_not]; omega
  have d2 : decide (k2 < 0) = true := by rw [decide_eq_true_iff]; omega
  go_enter Tryd.func14, Tryd.ntmps14
  go_wp2_with (first | (go_at_call 56; refine (many_is _ _ hm _).mono ?_; rintro e w' ⟨rfl, rfl⟩))
  go_quiet ((go_at_call 56; exact quiet_left (many_is _ _ hm _)))
  go_wp2
  go_ret
  exact ⟨rfl, below_drewN ((Below.refl _ _).alloc (Nat.le_refl _) _) _⟩
set_option maxHeartbeats 1000000 in
theorem valid_5_b3 (k1 k2 k3 k4 : Int) (hm : Hid (manyOf 5 = 32)) (g0 : 0 ≤ k1) (g1 : k1 < 32) (g2 : 0 ≤ k2) (g : ¬ k2 ≤ 1048575) (w : World) :
    Calls Tryd.prog 14 #[Value.agg #[.int .i64 5, .int .i64 k1, .int .i64 k2, .int .i64 k3, .int .u32 k4]] w fun e w' => e = .returned (.int .i64 103) ∧ Below w.heap.size w w' := by
  have d0 : decide (k1 < 0) = false := by rw [decide_eq_false_iff_not]; omega
  have d1 : decide (32 ≤ k1) = false := by rw [decide_eq_false_iff_not]; omega
  have d2 : decide (k2 < 0) = false := by rw [decide_eq_false_iff_not]; omega
  have d3 : decide (1048575 < k2) = true := by rw [decide_eq_true_iff]; omega
  go_enter Tryd.func14, Tryd.ntmps14
  go_wp2_with (first | (go_at_call 56; refine (many_is _ _ hm _).mono ?_; rintro e w' ⟨rfl, rfl⟩))
  go_quiet ((go_at_call 56; exact quiet_left (many_is _ _ hm _)))
  go_wp2
  go_ret
  exact ⟨rfl, below_drewN ((Below.refl _ _).alloc (Nat.le_refl _) _) _⟩
set_option maxHeartbeats 1000000 in
theorem valid_5_b4 (k1 k2 k3 k4 : Int) (hm : Hid (manyOf 5 = 32)) (g0 : 0 ≤ k1) (g1 : k1 < 32) (g2 : 0 ≤ k2) (g3 : k2 ≤ 1048575) (g : ¬ 0 ≤ k3) (w : World) :
    Calls Tryd.prog 14 #[Value.agg #[.int .i64 5, .int .i64 k1, .int .i64 k2, .int .i64 k3, .int .u32 k4]] w fun e w' => e = .returned (.int .i64 103) ∧ Below w.heap.size w w' := by
  have d0 : decide (k1 < 0) = false := by rw [decide_eq_false_iff_not]; omega
  have d1 : decide (32 ≤ k1) = false := by rw [decide_eq_false_iff_not]; omega
  have d2 : decide (k2 < 0) = false := by rw [decide_eq_false_iff_not]; omega
  have d3 : decide (1048575 < k2) = false := by rw [decide_eq_false_iff_not]; omega
  have d4 : decide (k3 < 0) = true := by rw [decide_eq_true_iff]; omega
  go_enter Tryd.func14, Tryd.ntmps14
  go_wp2_with (first | (go_at_call 56; refine (many_is _ _ hm _).mono ?_; rintro e w' ⟨rfl, rfl⟩))
  go_quiet ((go_at_call 56; exact quiet_left (many_is _ _ hm _)))
  go_wp2
  go_ret
  exact ⟨rfl, below_drewN ((Below.refl _ _).alloc (Nat.le_refl _) _) _⟩
set_option maxHeartbeats 1000000 in
theorem valid_5_b5 (k1 k2 k3 k4 : Int) (hm : Hid (manyOf 5 = 32)) (g0 : 0 ≤ k1) (g1 : k1 < 32) (g2 : 0 ≤ k2) (g3 : k2 ≤ 1048575) (g4 : 0 ≤ k3) (g : ¬ k3 ≤ 0) (w : World) :
    Calls Tryd.prog 14 #[Value.agg #[.int .i64 5, .int .i64 k1, .int .i64 k2, .int .i64 k3, .int .u32 k4]] w fun e w' => e = .returned (.int .i64 103) ∧ Below w.heap.size w w' := by
  have d0 : decide (k1 < 0) = false := by rw [decide_eq_false_iff_not]; omega
  have d1 : decide (32 ≤ k1) = false := by rw [decide_eq_false_iff_not]; omega
  have d2 : decide (k2 < 0) = false := by rw [decide_eq_false_iff_not]; omega
  have d3 : decide (1048575 < k2) = false := by rw [decide_eq_false_iff_not]; omega
  have d4 : decide (k3 < 0) = false := by rw [decide_eq_false_iff_not]; omega
  have d5 : decide (0 < k3) = true := by rw [decide_eq_true_iff]; omega
  go_enter Tryd.func14, Tryd.ntmps14
  go_wp2_with (first | (go_at_call 56; refine (many_is _ _ hm _).mono ?_; rintro e w' ⟨rfl, rfl⟩))
  go_quiet ((go_at_call 56; exact quiet_left (many_is _ _ hm _)))
  go_wp2
  go_ret
  exact ⟨rfl, below_drewN ((Below.refl _ _).alloc (Nat.le_refl _) _) _⟩
set_option maxHeartbeats 1000000 in
theorem valid_5_b6 (k1 k2 k3 k4 : Int) (hm : Hid (manyOf 5 = 32)) (g0 : 0 ≤ k1) (g1 : k1 < 32) (g2 : 0 ≤ k2) (g3 : k2 ≤ 1048575) (g4 : 0 ≤ k3) (g5 : k3 ≤ 0) (g : ¬ k4 ≤ 536870911) (w : World) :
    Calls Tryd.prog 14 #[Value.agg #[.int .i64 5, .int .i64 k1, .int .i64 k2, .int .i64 k3, .int .u32 k4]] w fun e w' => e = .returned (.int .i64 103) ∧ Below w.heap.size w w' := by
  have d0 : decide (k1 < 0) = false := by rw [decide_eq_false_iff_not]; omega
  have d1 : decide (32 ≤ k1) = false := by rw [decide_eq_false_iff_not]; omega
  have d2 : decide (k2 < 0) = false := by rw [decide_eq_false_iff_not]; omega
  have d3 : decide (1048575 < k2) = false := by rw [decide_eq_false_iff_not]; omega
  have d4 : decide (k3 < 0) = false := by rw [decide_eq_false_iff_not]; omega
  have d5 : decide (0 < k3) = false := by rw [decide_eq_false_iff_not]; omega
  have d6 : decide (536870911 < k4) = true := by rw [decide_eq_true_iff]; omega
  go_enter Tryd.func14, Tryd.ntmps14
  go_wp2_with (first | (go_at_call 56; refine (many_is _ _ hm _).mono ?_; rintro e w' ⟨rfl, rfl⟩))
  go_quiet ((go_at_call 56; exact quiet_left (many_is _ _ hm _)))
  go_wp2
  go_ret
  exact ⟨rfl, below_drewN ((Below.refl _ _).alloc (Nat.le_refl _) _) _⟩
end Go.Proofs.YtahhnfhnlffmpaaDoor
namespace Go.Proofs.YtahhnfhnlffmpaaDoor
open Go.ChangeShapes Go.WideShapes Go.ChangeAt Go.RowKit
set_option linter.unusedVariables false
set_option maxHeartbeats 1000000 in
theorem valid_6_ok (k1 k2 k3 k4 : Int) (hm : Hid (manyOf 6 = 32)) (g1 : 0 ≤ k1) (g2 : k1 < 32) (g3 : 0 ≤ k2) (g4 : k2 ≤ 1048575) (g5 : 0 ≤ k3) (g6 : k3 ≤ 0) (g7 : k4 ≤ 536870911) (w : World) :
    Calls Tryd.prog 14 #[Value.agg #[.int .i64 6, .int .i64 k1, .int .i64 k2, .int .i64 k3, .int .u32 k4]] w fun e w' => e = .returned (.int .i64 0) ∧ Below w.heap.size w w' := by
  have d0 : decide (k1 < 0) = false := by rw [decide_eq_false_iff_not]; omega
  have d1 : decide (32 ≤ k1) = false := by rw [decide_eq_false_iff_not]; omega
  have d2 : decide (k2 < 0) = false := by rw [decide_eq_false_iff_not]; omega
  have d3 : decide (1048575 < k2) = false := by rw [decide_eq_false_iff_not]; omega
  have d4 : decide (k3 < 0) = false := by rw [decide_eq_false_iff_not]; omega
  have d5 : decide (0 < k3) = false := by rw [decide_eq_false_iff_not]; omega
  have d6 : decide (536870911 < k4) = false := by rw [decide_eq_false_iff_not]; omega
  go_enter Tryd.func14, Tryd.ntmps14
  go_wp2_with (first | (go_at_call 56; refine (many_is _ _ hm _).mono ?_; rintro e w' ⟨rfl, rfl⟩))
  go_quiet ((go_at_call 56; exact quiet_left (many_is _ _ hm _)))
  go_wp2
  go_ret
  exact ⟨rfl, below_drewN ((Below.refl _ _).alloc (Nat.le_refl _) _) _⟩
set_option maxHeartbeats 1000000 in
theorem valid_6_b0 (k1 k2 k3 k4 : Int) (hm : Hid (manyOf 6 = 32))  (g : ¬ 0 ≤ k1) (w : World) :
    Calls Tryd.prog 14 #[Value.agg #[.int .i64 6, .int .i64 k1, .int .i64 k2, .int .i64 k3, .int .u32 k4]] w fun e w' => e = .returned (.int .i64 103) ∧ Below w.heap.size w w' := by
  have d0 : decide (k1 < 0) = true := by rw [decide_eq_true_iff]; omega
  go_enter Tryd.func14, Tryd.ntmps14
  go_wp2_with (first | (go_at_call 56; refine (many_is _ _ hm _).mono ?_; rintro e w' ⟨rfl, rfl⟩))
  go_quiet ((go_at_call 56; exact quiet_left (many_is _ _ hm _)))
  go_wp2
  go_ret
  exact ⟨rfl, below_drewN ((Below.refl _ _).alloc (Nat.le_refl _) _) _⟩
set_option maxHeartbeats 1000000 in
theorem valid_6_b1 (k1 k2 k3 k4 : Int) (hm : Hid (manyOf 6 = 32)) (g0 : 0 ≤ k1) (g : ¬ k1 < 32) (w : World) :
    Calls Tryd.prog 14 #[Value.agg #[.int .i64 6, .int .i64 k1, .int .i64 k2, .int .i64 k3, .int .u32 k4]] w fun e w' => e = .returned (.int .i64 103) ∧ Below w.heap.size w w' := by
  have d0 : decide (k1 < 0) = false := by rw [decide_eq_false_iff_not]; omega
  have d1 : decide (32 ≤ k1) = true := by rw [decide_eq_true_iff]; omega
  go_enter Tryd.func14, Tryd.ntmps14
  go_wp2_with (first | (go_at_call 56; refine (many_is _ _ hm _).mono ?_; rintro e w' ⟨rfl, rfl⟩))
  go_quiet ((go_at_call 56; exact quiet_left (many_is _ _ hm _)))
  go_wp2
  go_ret
  exact ⟨rfl, below_drewN ((Below.refl _ _).alloc (Nat.le_refl _) _) _⟩
set_option maxHeartbeats 1000000 in
theorem valid_6_b2 (k1 k2 k3 k4 : Int) (hm : Hid (manyOf 6 = 32)) (g0 : 0 ≤ k1) (g1 : k1 < 32) (g : ¬ 0 ≤ k2) (w : World) :
    Calls Tryd.prog 14 #[Value.agg #[.int .i64 6, .int .i64 k1, .int .i64 k2, .int .i64 k3, .int .u32 k4]] w fun e w' => e = .returned (.int .i64 103) ∧ Below w.heap.size w w' := by
  have d0 : decide (k1 < 0) = false := by rw [decide_eq_false_iff_not]; omega
  have d1 : decide (32 ≤ k1) = false := by rw [decide_eq_false_iff_not]; omega
  have d2 : decide (k2 < 0) = true := by rw [decide_eq_true_iff]; omega
  go_enter Tryd.func14, Tryd.ntmps14
  go_wp2_with (first | (go_at_call 56; refine (many_is _ _ hm _).mono ?_; rintro e w' ⟨rfl, rfl⟩))
  go_quiet ((go_at_call 56; exact quiet_left (many_is _ _ hm _)))
  go_wp2
  go_ret
  exact ⟨rfl, below_drewN ((Below.refl _ _).alloc (Nat.le_refl _) _) _⟩
set_option maxHeartbeats 1000000 in
theorem valid_6_b3 (k1 k2 k3 k4 : Int) (hm : Hid (manyOf 6 = 32)) (g0 : 0 ≤ k1) (g1 : k1 < 32) (g2 : 0 ≤ k2) (g : ¬ k2 ≤ 1048575) (w : World) :
    Calls Tryd.prog 14 #[Value.agg #[.int .i64 6, .int .i64 k1, .int .i64 k2, .int .i64 k3, .int .u32 k4]] w fun e w' => e = .returned (.int .i64 103) ∧ Below w.heap.size w w' := by
  have d0 : decide (k1 < 0) = false := by rw [decide_eq_false_iff_not]; omega
  have d1 : decide (32 ≤ k1) = false := by rw [decide_eq_false_iff_not]; omega
  have d2 : decide (k2 < 0) = false := by rw [decide_eq_false_iff_not]; omega
  have d3 : decide (1048575 < k2) = true := by rw [decide_eq_true_iff]; omega
  go_enter Tryd.func14, Tryd.ntmps14
  go_wp2_with (first | (go_at_call 56; refine (many_is _ _ hm _).mono ?_; rintro e w' ⟨rfl, rfl⟩))
  go_quiet ((go_at_call 56; exact quiet_left (many_is _ _ hm _)))
  go_wp2
  go_ret
  exact ⟨rfl, below_drewN ((Below.refl _ _).alloc (Nat.le_refl _) _) _⟩
set_option maxHeartbeats 1000000 in
theorem valid_6_b4 (k1 k2 k3 k4 : Int) (hm : Hid (manyOf 6 = 32)) (g0 : 0 ≤ k1) (g1 : k1 < 32) (g2 : 0 ≤ k2) (g3 : k2 ≤ 1048575) (g : ¬ 0 ≤ k3) (w : World) :
    Calls Tryd.prog 14 #[Value.agg #[.int .i64 6, .int .i64 k1, .int .i64 k2, .int .i64 k3, .int .u32 k4]] w fun e w' => e = .returned (.int .i64 103) ∧ Below w.heap.size w w' := by
  have d0 : decide (k1 < 0) = false := by rw [decide_eq_false_iff_not]; omega
  have d1 : decide (32 ≤ k1) = false := by rw [decide_eq_false_iff_not]; omega
  have d2 : decide (k2 < 0) = false := by rw [decide_eq_false_iff_not]; omega
  have d3 : decide (1048575 < k2) = false := by rw [decide_eq_false_iff_not]; omega
  have d4 : decide (k3 < 0) = true := by rw [decide_eq_true_iff]; omega
  go_enter Tryd.func14, Tryd.ntmps14
  go_wp2_with (first | (go_at_call 56; refine (many_is _ _ hm _).mono ?_; rintro e w' ⟨rfl, rfl⟩))
  go_quiet ((go_at_call 56; exact quiet_left (many_is _ _ hm _)))
  go_wp2
  go_ret
  exact ⟨rfl, below_drewN ((Below.refl _ _).alloc (Nat.le_refl _) _) _⟩
set_option maxHeartbeats 1000000 in
theorem valid_6_b5 (k1 k2 k3 k4 : Int) (hm : Hid (manyOf 6 = 32)) (g0 : 0 ≤ k1) (g1 : k1 < 32) (g2 : 0 ≤ k2) (g3 : k2 ≤ 1048575) (g4 : 0 ≤ k3) (g : ¬ k3 ≤ 0) (w : World) :
    Calls Tryd.prog 14 #[Value.agg #[.int .i64 6, .int .i64 k1, .int .i64 k2, .int .i64 k3, .int .u32 k4]] w fun e w' => e = .returned (.int .i64 103) ∧ Below w.heap.size w w' := by
  have d0 : decide (k1 < 0) = false := by rw [decide_eq_false_iff_not]; omega
  have d1 : decide (32 ≤ k1) = false := by rw [decide_eq_false_iff_not]; omega
  have d2 : decide (k2 < 0) = false := by rw [decide_eq_false_iff_not]; omega
  have d3 : decide (1048575 < k2) = false := by rw [decide_eq_false_iff_not]; omega
  have d4 : decide (k3 < 0) = false := by rw [decide_eq_false_iff_not]; omega
  have d5 : decide (0 < k3) = true := by rw [decide_eq_true_iff]; omega
  go_enter Tryd.func14, Tryd.ntmps14
  go_wp2_with (first | (go_at_call 56; refine (many_is _ _ hm _).mono ?_; rintro e w' ⟨rfl, rfl⟩))
  go_quiet ((go_at_call 56; exact quiet_left (many_is _ _ hm _)))
  go_wp2
  go_ret
  exact ⟨rfl, below_drewN ((Below.refl _ _).alloc (Nat.le_refl _) _) _⟩
set_option maxHeartbeats 1000000 in
theorem valid_6_b6 (k1 k2 k3 k4 : Int) (hm : Hid (manyOf 6 = 32)) (g0 : 0 ≤ k1) (g1 : k1 < 32) (g2 : 0 ≤ k2) (g3 : k2 ≤ 1048575) (g4 : 0 ≤ k3) (g5 : k3 ≤ 0) (g : ¬ k4 ≤ 536870911) (w : World) :
    Calls Tryd.prog 14 #[Value.agg #[.int .i64 6, .int .i64 k1, .int .i64 k2, .int .i64 k3, .int .u32 k4]] w fun e w' => e = .returned (.int .i64 103) ∧ Below w.heap.size w w' := by
  have d0 : decide (k1 < 0) = false := by rw [decide_eq_false_iff_not]; omega
  have d1 : decide (32 ≤ k1) = false := by rw [decide_eq_false_iff_not]; omega
  have d2 : decide (k2 < 0) = false := by rw [decide_eq_false_iff_not]; omega
  have d3 : decide (1048575 < k2) = false := by rw [decide_eq_false_iff_not]; omega
  have d4 : decide (k3 < 0) = false := by rw [decide_eq_false_iff_not]; omega
  have d5 : decide (0 < k3) = false := by rw [decide_eq_false_iff_not]; omega
  have d6 : decide (536870911 < k4) = true := by rw [decide_eq_true_iff]; omega
  go_enter Tryd.func14, Tryd.ntmps14
  go_wp2_with (first | (go_at_call 56; refine (many_is _ _ hm _).mono ?_; rintro e w' ⟨rfl, rfl⟩))
  go_quiet ((go_at_call 56; exact quiet_left (many_is _ _ hm _)))
  go_wp2
  go_ret
  exact ⟨rfl, below_drewN ((Below.refl _ _).alloc (Nat.le_refl _) _) _⟩
set_option maxHeartbeats 1000000 in
theorem valid_D_ok (k0 k1 k2 k3 k4 m : Int) (h0 : 0 ≤ k0) (h14 : k0 ≤ 14) (h1 : ¬ k0 = 1) (h2 : ¬ k0 = 2) (h3 : ¬ k0 = 3) (h5 : ¬ k0 = 5) (h6 : ¬ k0 = 6) (hm : Hid (manyOf k0 = m)) (hm1 : 1 < m) (g1 : 0 ≤ k1) (g2 : k1 < m) (g3 : 0 ≤ k2) (g4 : k2 ≤ 1048575) (g5 : 0 ≤ k3) (g6 : k3 ≤ 0) (g7 : k4 ≤ 0) (w : World) :
    Calls Tryd.prog 14 #[Value.agg #[.int .i64 k0, .int .i64 k1, .int .i64 k2, .int .i64 k3, .int .u32 k4]] w fun e w' => e = .returned (.int .i64 0) ∧ Below w.heap.size w w' := by
  have e1 : (k0 == 1) = false := by simpa using h1
  have e2 : (k0 == 2) = false := by simpa using h2
  have e3 : (k0 == 3) = false := by simpa using h3
  have e5 : (k0 == 5) = false := by simpa using h5
  have e6 : (k0 == 6) = false := by simpa using h6
  have e0 : decide (k0 < 0) = false := by rw [decide_eq_false_iff_not]; omega
  have e14 : decide (14 < k0) = false := by rw [decide_eq_false_iff_not]; omega
  have d0 : decide (k1 < 0) = false := by rw [decide_eq_false_iff_not]; omega
  have d1 : decide (m ≤ k1) = false := by rw [decide_eq_false_iff_not]; omega
  have d2 : decide (k2 < 0) = false := by rw [decide_eq_false_iff_not]; omega
  have d3 : decide (1048575 < k2) = false := by rw [decide_eq_false_iff_not]; omega
  have d4 : decide (k3 < 0) = false := by rw [decide_eq_false_iff_not]; omega
  have d5 : decide (0 < k3) = false := by rw [decide_eq_false_iff_not]; omega
  have d6 : decide (0 < k4) = false := by rw [decide_eq_false_iff_not]; omega
  go_enter Tryd.func14, Tryd.ntmps14
  go_wp2_with (first | (go_at_call 56; refine (many_is _ _ hm _).mono ?_; rintro e w' ⟨rfl, rfl⟩))
  go_quiet ((go_at_call 56; exact quiet_left (many_is _ _ hm _)))
  go_wp2
  go_ret
  exact ⟨rfl, below_drewN ((Below.refl _ _).alloc (Nat.le_refl _) _) _⟩
set_option maxHeartbeats 1000000 in
theorem valid_D_b0 (k0 k1 k2 k3 k4 m : Int) (h0 : 0 ≤ k0) (h14 : k0 ≤ 14) (h1 : ¬ k0 = 1) (h2 : ¬ k0 = 2) (h3 : ¬ k0 = 3) (h5 : ¬ k0 = 5) (h6 : ¬ k0 = 6) (hm : Hid (manyOf k0 = m)) (hm1 : 1 < m)  (g : ¬ 0 ≤ k1) (w : World) :
    Calls Tryd.prog 14 #[Value.agg #[.int .i64 k0, .int .i64 k1, .int .i64 k2, .int .i64 k3, .int .u32 k4]] w fun e w' => e = .returned (.int .i64 103) ∧ Below w.heap.size w w' := by
  have e1 : (k0 == 1) = false := by simpa using h1
  have e2 : (k0 == 2) = false := by simpa using h2
  have e3 : (k0 == 3) = false := by simpa using h3
  have e5 : (k0 == 5) = false := by simpa using h5
  have e6 : (k0 == 6) = false := by simpa using h6
  have e0 : decide (k0 < 0) = false := by rw [decide_eq_false_iff_not]; omega
  have e14 : decide (14 < k0) = false := by rw [decide_eq_false_iff_not]; omega
  have d0 : decide (k1 < 0) = true := by rw [decide_eq_true_iff]; omega
  go_enter Tryd.func14, Tryd.ntmps14
  go_wp2_with (first | (go_at_call 56; refine (many_is _ _ hm _).mono ?_; rintro e w' ⟨rfl, rfl⟩))
  go_quiet ((go_at_call 56; exact quiet_left (many_is _ _ hm _)))
  go_wp2
  go_ret
  exact ⟨rfl, below_drewN ((Below.refl _ _).alloc (Nat.le_refl _) _) _⟩
set_option maxHeartbeats 1000000 in
theorem valid_D_b1 (k0 k1 k2 k3 k4 m : Int) (h0 : 0 ≤ k0) (h14 : k0 ≤ 14) (h1 : ¬ k0 = 1) (h2 : ¬ k0 = 2) (h3 : ¬ k0 = 3) (h5 : ¬ k0 = 5) (h6 : ¬ k0 = 6) (hm : Hid (manyOf k0 = m)) (hm1 : 1 < m) (g0 : 0 ≤ k1) (g : ¬ k1 < m) (w : World) :
    Calls Tryd.prog 14 #[Value.agg #[.int .i64 k0, .int .i64 k1, .int .i64 k2, .int .i64 k3, .int .u32 k4]] w fun e w' => e = .returned (.int .i64 103) ∧ Below w.heap.size w w' := by
  have e1 : (k0 == 1) = false := by simpa using h1
  have e2 : (k0 == 2) = false := by simpa using h2
  have e3 : (k0 == 3) = false := by simpa using h3
  have e5 : (k0 == 5) = false := by simpa using h5
  have e6 : (k0 == 6) = false := by simpa using h6
  have e0 : decide (k0 < 0) = false := by rw [decide_eq_false_iff_not]; omega
  have e14 : decide (14 < k0) = false := by rw [decide_eq_false_iff_not]; omega
  have d0 : decide (k1 < 0) = false := by rw [decide_eq_false_iff_not]; omega
  have d1 : decide (m ≤ k1) = true := by rw [decide_eq_true_iff]; omega
  go_enter Tryd.func14, Tryd.ntmps14
  go_wp2_with (first | (go_at_call 56; refine (many_is _ _ hm _).mono ?_; rintro e w' ⟨rfl, rfl⟩))
  go_quiet ((go_at_call 56; exact quiet_left (many_is _ _ hm _)))
  go_wp2
  go_ret
  exact ⟨rfl, below_drewN ((Below.refl _ _).alloc (Nat.le_refl _) _) _⟩
set_option maxHeartbeats 1000000 in
theorem valid_D_b2 (k0 k1 k2 k3 k4 m : Int) (h0 : 0 ≤ k0) (h14 : k0 ≤ 14) (h1 : ¬ k0 = 1) (h2 : ¬ k0 = 2) (h3 : ¬ k0 = 3) (h5 : ¬ k0 = 5) (h6 : ¬ k0 = 6) (hm : Hid (manyOf k0 = m)) (hm1 : 1 < m) (g0 : 0 ≤ k1) (g1 : k1 < m) (g : ¬ 0 ≤ k2) (w : World) :
    Calls Tryd.prog 14 #[Value.agg #[.int .i64 k0, .int .i64 k1, .int .i64 k2, .int .i64 k3, .int .u32 k4]] w fun e w' => e = .returned (.int .i64 103) ∧ Below w.heap.size w w' := by
  have e1 : (k0 == 1) = false := by simpa using h1
  have e2 : (k0 == 2) = false := by simpa using h2
  have e3 : (k0 == 3) = false := by simpa using h3
  have e5 : (k0 == 5) = false := by simpa using h5
  have e6 : (k0 == 6) = false := by simpa using h6
  have e0 : decide (k0 < 0) = false := by rw [decide_eq_false_iff_not]; omega
  have e14 : decide (14 < k0) = false := by rw [decide_eq_false_iff_not]; omega
  have d0 : decide (k1 < 0) = false := by rw [decide_eq_false_iff_not]; omega
  have d1 : decide (m ≤ k1) = false := by rw [decide_eq_false_iff_not]; omega
  have d2 : decide (k2 < 0) = true := by rw [decide_eq_true_iff]; omega
  go_enter Tryd.func14, Tryd.ntmps14
  go_wp2_with (first | (go_at_call 56; refine (many_is _ _ hm _).mono ?_; rintro e w' ⟨rfl, rfl⟩))
  go_quiet ((go_at_call 56; exact quiet_left (many_is _ _ hm _)))
  go_wp2
  go_ret
  exact ⟨rfl, below_drewN ((Below.refl _ _).alloc (Nat.le_refl _) _) _⟩
set_option maxHeartbeats 1000000 in
theorem valid_D_b3 (k0 k1 k2 k3 k4 m : Int) (h0 : 0 ≤ k0) (h14 : k0 ≤ 14) (h1 : ¬ k0 = 1) (h2 : ¬ k0 = 2) (h3 : ¬ k0 = 3) (h5 : ¬ k0 = 5) (h6 : ¬ k0 = 6) (hm : Hid (manyOf k0 = m)) (hm1 : 1 < m) (g0 : 0 ≤ k1) (g1 : k1 < m) (g2 : 0 ≤ k2) (g : ¬ k2 ≤ 1048575) (w : World) :
    Calls Tryd.prog 14 #[Value.agg #[.int .i64 k0, .int .i64 k1, .int .i64 k2, .int .i64 k3, .int .u32 k4]] w fun e w' => e = .returned (.int .i64 103) ∧ Below w.heap.size w w' := by
  have e1 : (k0 == 1) = false := by simpa using h1
  have e2 : (k0 == 2) = false := by simpa using h2
  have e3 : (k0 == 3) = false := by simpa using h3
  have e5 : (k0 == 5) = false := by simpa using h5
  have e6 : (k0 == 6) = false := by simpa using h6
  have e0 : decide (k0 < 0) = false := by rw [decide_eq_false_iff_not]; omega
  have e14 : decide (14 < k0) = false := by rw [decide_eq_false_iff_not]; omega
  have d0 : decide (k1 < 0) = false := by rw [decide_eq_false_iff_not]; omega
  have d1 : decide (m ≤ k1) = false := by rw [decide_eq_false_iff_not]; omega
  have d2 : decide (k2 < 0) = false := by rw [decide_eq_false_iff_not]; omega
  have d3 : decide (1048575 < k2) = true := by rw [decide_eq_true_iff]; omega
  go_enter Tryd.func14, Tryd.ntmps14
  go_wp2_with (first | (go_at_call 56; refine (many_is _ _ hm _).mono ?_; rintro e w' ⟨rfl, rfl⟩))
  go_quiet ((go_at_call 56; exact quiet_left (many_is _ _ hm _)))
  go_wp2
  go_ret
  exact ⟨rfl, below_drewN ((Below.refl _ _).alloc (Nat.le_refl _) _) _⟩
set_option maxHeartbeats 1000000 in
theorem valid_D_b4 (k0 k1 k2 k3 k4 m : Int) (h0 : 0 ≤ k0) (h14 : k0 ≤ 14) (h1 : ¬ k0 = 1) (h2 : ¬ k0 = 2) (h3 : ¬ k0 = 3) (h5 : ¬ k0 = 5) (h6 : ¬ k0 = 6) (hm : Hid (manyOf k0 = m)) (hm1 : 1 < m) (g0 : 0 ≤ k1) (g1 : k1 < m) (g2 : 0 ≤ k2) (g3 : k2 ≤ 1048575) (g : ¬ 0 ≤ k3) (w : World) :
    Calls Tryd.prog 14 #[Value.agg #[.int .i64 k0, .int .i64 k1, .int .i64 k2, .int .i64 k3, .int .u32 k4]] w fun e w' => e = .returned (.int .i64 103) ∧ Below w.heap.size w w' := by
  have e1 : (k0 == 1) = false := by simpa using h1
  have e2 : (k0 == 2) = false := by simpa using h2
  have e3 : (k0 == 3) = false := by simpa using h3
  have e5 : (k0 == 5) = false := by simpa using h5
  have e6 : (k0 == 6) = false := by simpa using h6
  have e0 : decide (k0 < 0) = false := by rw [decide_eq_false_iff_not]; omega
  have e14 : decide (14 < k0) = false := by rw [decide_eq_false_iff_not]; omega
  have d0 : decide (k1 < 0) = false := by rw [decide_eq_false_iff_not]; omega
  have d1 : decide (m ≤ k1) = false := by rw [decide_eq_false_iff_not]; omega
  have d2 : decide (k2 < 0) = false := by rw [decide_eq_false_iff_not]; omega
  have d3 : decide (1048575 < k2) = false := by rw [decide_eq_false_iff_not]; omega
  have d4 : decide (k3 < 0) = true := by rw [decide_eq_true_iff]; omega
  go_enter Tryd.func14, Tryd.ntmps14
  go_wp2_with (first | (go_at_call 56; refine (many_is _ _ hm _).mono ?_; rintro e w' ⟨rfl, rfl⟩))
  go_quiet ((go_at_call 56; exact quiet_left (many_is _ _ hm _)))
  go_wp2
  go_ret
  exact ⟨rfl, below_drewN ((Below.refl _ _).alloc (Nat.le_refl _) _) _⟩
set_option maxHeartbeats 1000000 in
theorem valid_D_b5 (k0 k1 k2 k3 k4 m : Int) (h0 : 0 ≤ k0) (h14 : k0 ≤ 14) (h1 : ¬ k0 = 1) (h2 : ¬ k0 = 2) (h3 : ¬ k0 = 3) (h5 : ¬ k0 = 5) (h6 : ¬ k0 = 6) (hm : Hid (manyOf k0 = m)) (hm1 : 1 < m) (g0 : 0 ≤ k1) (g1 : k1 < m) (g2 : 0 ≤ k2) (g3 : k2 ≤ 1048575) (g4 : 0 ≤ k3) (g : ¬ k3 ≤ 0) (w : World) :
    Calls Tryd.prog 14 #[Value.agg #[.int .i64 k0, .int .i64 k1, .int .i64 k2, .int .i64 k3, .int .u32 k4]] w fun e w' => e = .returned (.int .i64 103) ∧ Below w.heap.size w w' := by
  have e1 : (k0 == 1) = false := by simpa using h1
  have e2 : (k0 == 2) = false := by simpa using h2
  have e3 : (k0 == 3) = false := by simpa using h3
  have e5 : (k0 == 5) = false := by simpa using h5
  have e6 : (k0 == 6) = false := by simpa using h6
  have e0 : decide (k0 < 0) = false := by rw [decide_eq_false_iff_not]; omega
  have e14 : decide (14 < k0) = false := by rw [decide_eq_false_iff_not]; omega
  have d0 : decide (k1 < 0) = false := by rw [decide_eq_false_iff_not]; omega
  have d1 : decide (m ≤ k1) = false := by rw [decide_eq_false_iff_not]; omega
  have d2 : decide (k2 < 0) = false := by rw [decide_eq_false_iff_not]; omega
  have d3 : decide (1048575 < k2) = false := by rw [decide_eq_false_iff_not]; omega
  have d4 : decide (k3 < 0) = false := by rw [decide_eq_false_iff_not]; omega
  have d5 : decide (0 < k3) = true := by rw [decide_eq_true_iff]; omega
  go_enter Tryd.func14, Tryd.ntmps14
  go_wp2_with (first | (go_at_call 56; refine (many_is _ _ hm _).mono ?_; rintro e w' ⟨rfl, rfl⟩))
  go_quiet ((go_at_call 56; exact quiet_left (many_is _ _ hm _)))
  go_wp2
  go_ret
  exact ⟨rfl, below_drewN ((Below.refl _ _).alloc (Nat.le_refl _) _) _⟩
set_option maxHeartbeats 1000000 in
theorem valid_D_b6 (k0 k1 k2 k3 k4 m : Int) (h0 : 0 ≤ k0) (h14 : k0 ≤ 14) (h1 : ¬ k0 = 1) (h2 : ¬ k0 = 2) (h3 : ¬ k0 = 3) (h5 : ¬ k0 = 5) (h6 : ¬ k0 = 6) (hm : Hid (manyOf k0 = m)) (hm1 : 1 < m) (g0 : 0 ≤ k1) (g1 : k1 < m) (g2 : 0 ≤ k2) (g3 : k2 ≤ 1048575) (g4 : 0 ≤ k3) (g5 : k3 ≤ 0) (g : ¬ k4 ≤ 0) (w : World) :
    Calls Tryd.prog 14 #[Value.agg #[.int .i64 k0, .int .i64 k1, .int .i64 k2, .int .i64 k3, .int .u32 k4]] w fun e w' => e = .returned (.int .i64 103) ∧ Below w.heap.size w w' := by
  have e1 : (k0 == 1) = false := by simpa using h1
  have e2 : (k0 == 2) = false := by simpa using h2
  have e3 : (k0 == 3) = false := by simpa using h3
  have e5 : (k0 == 5) = false := by simpa using h5
  have e6 : (k0 == 6) = false := by simpa using h6
  have e0 : decide (k0 < 0) = false := by rw [decide_eq_false_iff_not]; omega
  have e14 : decide (14 < k0) = false := by rw [decide_eq_false_iff_not]; omega
  have d0 : decide (k1 < 0) = false := by rw [decide_eq_false_iff_not]; omega
  have d1 : decide (m ≤ k1) = false := by rw [decide_eq_false_iff_not]; omega
  have d2 : decide (k2 < 0) = false := by rw [decide_eq_false_iff_not]; omega
  have d3 : decide (1048575 < k2) = false := by rw [decide_eq_false_iff_not]; omega
  have d4 : decide (k3 < 0) = false := by rw [decide_eq_false_iff_not]; omega
  have d5 : decide (0 < k3) = false := by rw [decide_eq_false_iff_not]; omega
  have d6 : decide (0 < k4) = true := by rw [decide_eq_true_iff]; omega
  go_enter Tryd.func14, Tryd.ntmps14
  go_wp2_with (first | (go_at_call 56; refine (many_is _ _ hm _).mono ?_; rintro e w' ⟨rfl, rfl⟩))
  go_quiet ((go_at_call 56; exact quiet_left (many_is _ _ hm _)))
  go_wp2
  go_ret
  exact ⟨rfl, below_drewN ((Below.refl _ _).alloc (Nat.le_refl _) _) _⟩
end Go.Proofs.YtahhnfhnlffmpaaDoor
namespace Go.Proofs.YtahhnfhnlffmpaaDoor
open Go.ChangeShapes Go.WideShapes Go.ChangeAt Go.RowKit
set_option linter.unusedVariables false
set_option maxHeartbeats 1000000 in
theorem valid_F_ok (k0 k1 k2 k3 k4 : Int) (h0 : 0 ≤ k0) (h14 : k0 ≤ 14) (h1 : ¬ k0 = 1) (h2 : ¬ k0 = 2) (h3 : ¬ k0 = 3) (h5 : ¬ k0 = 5) (h6 : ¬ k0 = 6) (hm : Hid (manyOf k0 = 1)) (g1 : 0 ≤ k1) (g2 : k1 < 1) (g3 : 0 ≤ k2) (g4 : k2 ≤ 0) (g5 : 0 ≤ k3) (g6 : k3 ≤ 0) (g7 : k4 ≤ 0) (w : World) :
    Calls Tryd.prog 14 #[Value.agg #[.int .i64 k0, .int .i64 k1, .int .i64 k2, .int .i64 k3, .int .u32 k4]] w fun e w' => e = .returned (.int .i64 0) ∧ Below w.heap.size w w' := by
  have e1 : (k0 == 1) = false := by simpa using h1
  have e2 : (k0 == 2) = false := by simpa using h2
  have e3 : (k0 == 3) = false := by simpa using h3
  have e5 : (k0 == 5) = false := by simpa using h5
  have e6 : (k0 == 6) = false := by simpa using h6
  have e0 : decide (k0 < 0) = false := by rw [decide_eq_false_iff_not]; omega
  have e14 : decide (14 < k0) = false := by rw [decide_eq_false_iff_not]; omega
  have d0 : decide (k1 < 0) = false := by rw [decide_eq_false_iff_not]; omega
  have d1 : decide (1 ≤ k1) = false := by rw [decide_eq_false_iff_not]; omega
  have d2 : decide (k2 < 0) = false := by rw [decide_eq_false_iff_not]; omega
  have d3 : decide (0 < k2) = false := by rw [decide_eq_false_iff_not]; omega
  have d4 : decide (k3 < 0) = false := by rw [decide_eq_false_iff_not]; omega
  have d5 : decide (0 < k3) = false := by rw [decide_eq_false_iff_not]; omega
  have d6 : decide (0 < k4) = false := by rw [decide_eq_false_iff_not]; omega
  go_enter Tryd.func14, Tryd.ntmps14
  go_wp2_with (first | (go_at_call 56; refine (many_is _ _ hm _).mono ?_; rintro e w' ⟨rfl, rfl⟩))
  go_quiet ((go_at_call 56; exact quiet_left (many_is _ _ hm _)))
  go_wp2
  go_ret
  exact ⟨rfl, below_drewN ((Below.refl _ _).alloc (Nat.le_refl _) _) _⟩
set_option maxHeartbeats 1000000 in
theorem valid_F_b0 (k0 k1 k2 k3 k4 : Int) (h0 : 0 ≤ k0) (h14 : k0 ≤ 14) (h1 : ¬ k0 = 1) (h2 : ¬ k0 = 2) (h3 : ¬ k0 = 3) (h5 : ¬ k0 = 5) (h6 : ¬ k0 = 6) (hm : Hid (manyOf k0 = 1))  (g : ¬ 0 ≤ k1) (w : World) :
    Calls Tryd.prog 14 #[Value.agg #[.int .i64 k0, .int .i64 k1, .int .i64 k2, .int .i64 k3, .int .u32 k4]] w fun e w' => e = .returned (.int .i64 103) ∧ Below w.heap.size w w' := by
  have e1 : (k0 == 1) = false := by simpa using h1
  have e2 : (k0 == 2) = false := by simpa using h2
  have e3 : (k0 == 3) = false := by simpa using h3
  have e5 : (k0 == 5) = false := by simpa using h5
  have e6 : (k0 == 6) = false := by simpa using h6
  have e0 : decide (k0 < 0) = false := by rw [decide_eq_false_iff_not]; omega
  have e14 : decide (14 < k0) = false := by rw [decide_eq_false_iff_not]; omega
  have d0 : decide (k1 < 0) = true := by rw [decide_eq_true_iff]; omega
  go_enter Tryd.func14, Tryd.ntmps14
  go_wp2_with (first | (go_at_call 56; refine (many_is _ _ hm _).mono ?_; rintro e w' ⟨rfl, rfl⟩))
  go_quiet ((go_at_call 56; exact quiet_left (many_is _ _ hm _)))
  go_wp2
  go_ret
  exact ⟨rfl, below_drewN ((Below.refl _ _).alloc (Nat.le_refl _) _) _⟩
set_option maxHeartbeats 1000000 in
theorem valid_F_b1 (k0 k1 k2 k3 k4 : Int) (h0 : 0 ≤ k0) (h14 : k0 ≤ 14) (h1 : ¬ k0 = 1) (h2 : ¬ k0 = 2) (h3 : ¬ k0 = 3) (h5 : ¬ k0 = 5) (h6 : ¬ k0 = 6) (hm : Hid (manyOf k0 = 1)) (g0 : 0 ≤ k1) (g : ¬ k1 < 1) (w : World) :
    Calls Tryd.prog 14 #[Value.agg #[.int .i64 k0, .int .i64 k1, .int .i64 k2, .int .i64 k3, .int .u32 k4]] w fun e w' => e = .returned (.int .i64 103) ∧ Below w.heap.size w w' := by
  have e1 : (k0 == 1) = false := by simpa using h1
  have e2 : (k0 == 2) = false := by simpa using h2
  have e3 : (k0 == 3) = false := by simpa using h3
  have e5 : (k0 == 5) = false := by simpa using h5
  have e6 : (k0 == 6) = false := by simpa using h6
  have e0 : decide (k0 < 0) = false := by rw [decide_eq_false_iff_not]; omega
  have e14 : decide (14 < k0) = false := by rw [decide_eq_false_iff_not]; omega
  have d0 : decide (k1 < 0) = false := by rw [decide_eq_false_iff_not]; omega
  have d1 : decide (1 ≤ k1) = true := by rw [decide_eq_true_iff]; omega
  go_enter Tryd.func14, Tryd.ntmps14
  go_wp2_with (first | (go_at_call 56; refine (many_is _ _ hm _).mono ?_; rintro e w' ⟨rfl, rfl⟩))
  go_quiet ((go_at_call 56; exact quiet_left (many_is _ _ hm _)))
  go_wp2
  go_ret
  exact ⟨rfl, below_drewN ((Below.refl _ _).alloc (Nat.le_refl _) _) _⟩
set_option maxHeartbeats 1000000 in
theorem valid_F_b2 (k0 k1 k2 k3 k4 : Int) (h0 : 0 ≤ k0) (h14 : k0 ≤ 14) (h1 : ¬ k0 = 1) (h2 : ¬ k0 = 2) (h3 : ¬ k0 = 3) (h5 : ¬ k0 = 5) (h6 : ¬ k0 = 6) (hm : Hid (manyOf k0 = 1)) (g0 : 0 ≤ k1) (g1 : k1 < 1) (g : ¬ 0 ≤ k2) (w : World) :
    Calls Tryd.prog 14 #[Value.agg #[.int .i64 k0, .int .i64 k1, .int .i64 k2, .int .i64 k3, .int .u32 k4]] w fun e w' => e = .returned (.int .i64 103) ∧ Below w.heap.size w w' := by
  have e1 : (k0 == 1) = false := by simpa using h1
  have e2 : (k0 == 2) = false := by simpa using h2
  have e3 : (k0 == 3) = false := by simpa using h3
  have e5 : (k0 == 5) = false := by simpa using h5
  have e6 : (k0 == 6) = false := by simpa using h6
  have e0 : decide (k0 < 0) = false := by rw [decide_eq_false_iff_not]; omega
  have e14 : decide (14 < k0) = false := by rw [decide_eq_false_iff_not]; omega
  have d0 : decide (k1 < 0) = false := by rw [decide_eq_false_iff_not]; omega
  have d1 : decide (1 ≤ k1) = false := by rw [decide_eq_false_iff_not]; omega
  have d2 : decide (k2 < 0) = true := by rw [decide_eq_true_iff]; omega
  go_enter Tryd.func14, Tryd.ntmps14
  go_wp2_with (first | (go_at_call 56; refine (many_is _ _ hm _).mono ?_; rintro e w' ⟨rfl, rfl⟩))
  go_quiet ((go_at_call 56; exact quiet_left (many_is _ _ hm _)))
  go_wp2
  go_ret
  exact ⟨rfl, below_drewN ((Below.refl _ _).alloc (Nat.le_refl _) _) _⟩
set_option maxHeartbeats 1000000 in
theorem valid_F_b3 (k0 k1 k2 k3 k4 : Int) (h0 : 0 ≤ k0) (h14 : k0 ≤ 14) (h1 : ¬ k0 = 1) (h2 : ¬ k0 = 2) (h3 : ¬ k0 = 3) (h5 : ¬ k0 = 5) (h6 : ¬ k0 = 6) (hm : Hid (manyOf k0 = 1)) (g0 : 0 ≤ k1) (g1 : k1 < 1) (g2 : 0 ≤ k2) (g : ¬ k2 ≤ 0) (w : World) :
    Calls Tryd.prog 14 #[Value.agg #[.int .i64 k0, .int .i64 k1, .int .i64 k2, .int .i64 k3, .int .u32 k4]] w fun e w' => e = .returned (.int .i64 103) ∧ Below w.heap.size w w' := by
  have e1 : (k0 == 1) = false := by simpa using h1
  have e2 : (k0 == 2) = false := by simpa using h2
  have e3 : (k0 == 3) = false := by simpa using h3
  have e5 : (k0 == 5) = false := by simpa using h5
  have e6 : (k0 == 6) = false := by simpa using h6
  have e0 : decide (k0 < 0) = false := by rw [decide_eq_false_iff_not]; omega
  have e14 : decide (14 < k0) = false := by rw [decide_eq_false_iff_not]; omega
  have d0 : decide (k1 < 0) = false := by rw [decide_eq_false_iff_not]; omega
  have d1 : decide (1 ≤ k1) = false := by rw [decide_eq_false_iff_not]; omega
  have d2 : decide (k2 < 0) = false := by rw [decide_eq_false_iff_not]; omega
  have d3 : decide (0 < k2) = true := by rw [decide_eq_true_iff]; omega
  go_enter Tryd.func14, Tryd.ntmps14
  go_wp2_with (first | (go_at_call 56; refine (many_is _ _ hm _).mono ?_; rintro e w' ⟨rfl, rfl⟩))
  go_quiet ((go_at_call 56; exact quiet_left (many_is _ _ hm _)))
  go_wp2
  go_ret
  exact ⟨rfl, below_drewN ((Below.refl _ _).alloc (Nat.le_refl _) _) _⟩
set_option maxHeartbeats 1000000 in
theorem valid_F_b4 (k0 k1 k2 k3 k4 : Int) (h0 : 0 ≤ k0) (h14 : k0 ≤ 14) (h1 : ¬ k0 = 1) (h2 : ¬ k0 = 2) (h3 : ¬ k0 = 3) (h5 : ¬ k0 = 5) (h6 : ¬ k0 = 6) (hm : Hid (manyOf k0 = 1)) (g0 : 0 ≤ k1) (g1 : k1 < 1) (g2 : 0 ≤ k2) (g3 : k2 ≤ 0) (g : ¬ 0 ≤ k3) (w : World) :
    Calls Tryd.prog 14 #[Value.agg #[.int .i64 k0, .int .i64 k1, .int .i64 k2, .int .i64 k3, .int .u32 k4]] w fun e w' => e = .returned (.int .i64 103) ∧ Below w.heap.size w w' := by
  have e1 : (k0 == 1) = false := by simpa using h1
  have e2 : (k0 == 2) = false := by simpa using h2
  have e3 : (k0 == 3) = false := by simpa using h3
  have e5 : (k0 == 5) = false := by simpa using h5
  have e6 : (k0 == 6) = false := by simpa using h6
  have e0 : decide (k0 < 0) = false := by rw [decide_eq_false_iff_not]; omega
  have e14 : decide (14 < k0) = false := by rw [decide_eq_false_iff_not]; omega
  have d0 : decide (k1 < 0) = false := by rw [decide_eq_false_iff_not]; omega
  have d1 : decide (1 ≤ k1) = false := by rw [decide_eq_false_iff_not]; omega
  have d2 : decide (k2 < 0) = false := by rw [decide_eq_false_iff_not]; omega
  have d3 : decide (0 < k2) = false := by rw [decide_eq_false_iff_not]; omega
  have d4 : decide (k3 < 0) = true := by rw [decide_eq_true_iff]; omega
  go_enter Tryd.func14, Tryd.ntmps14
  go_wp2_with (first | (go_at_call 56; refine (many_is _ _ hm _).mono ?_; rintro e w' ⟨rfl, rfl⟩))
  go_quiet ((go_at_call 56; exact quiet_left (many_is _ _ hm _)))
  go_wp2
  go_ret
  exact ⟨rfl, below_drewN ((Below.refl _ _).alloc (Nat.le_refl _) _) _⟩
set_option maxHeartbeats 1000000 in
theorem valid_F_b5 (k0 k1 k2 k3 k4 : Int) (h0 : 0 ≤ k0) (h14 : k0 ≤ 14) (h1 : ¬ k0 = 1) (h2 : ¬ k0 = 2) (h3 : ¬ k0 = 3) (h5 : ¬ k0 = 5) (h6 : ¬ k0 = 6) (hm : Hid (manyOf k0 = 1)) (g0 : 0 ≤ k1) (g1 : k1 < 1) (g2 : 0 ≤ k2) (g3 : k2 ≤ 0) (g4 : 0 ≤ k3) (g : ¬ k3 ≤ 0) (w : World) :
    Calls Tryd.prog 14 #[Value.agg #[.int .i64 k0, .int .i64 k1, .int .i64 k2, .int .i64 k3, .int .u32 k4]] w fun e w' => e = .returned (.int .i64 103) ∧ Below w.heap.size w w' := by
  have e1 : (k0 == 1) = false := by simpa using h1
  have e2 : (k0 == 2) = false := by simpa using h2
  have e3 : (k0 == 3) = false := by simpa using h3
  have e5 : (k0 == 5) = false := by simpa using h5
  have e6 : (k0 == 6) = false := by simpa using h6
  have e0 : decide (k0 < 0) = false := by rw [decide_eq_false_iff_not]; omega
  have e14 : decide (14 < k0) = false := by rw [decide_eq_false_iff_not]; omega
  have d0 : decide (k1 < 0) = false := by rw [decide_eq_false_iff_not]; omega
  have d1 : decide (1 ≤ k1) = false := by rw [decide_eq_false_iff_not]; omega
  have d2 : decide (k2 < 0) = false := by rw [decide_eq_false_iff_not]; omega
  have d3 : decide (0 < k2) = false := by rw [decide_eq_false_iff_not]; omega
  have d4 : decide (k3 < 0) = false := by rw [decide_eq_false_iff_not]; omega
  have d5 : decide (0 < k3) = true := by rw [decide_eq_true_iff]; omega
  go_enter Tryd.func14, Tryd.ntmps14
  go_wp2_with (first | (go_at_call 56; refine (many_is _ _ hm _).mono ?_; rintro e w' ⟨rfl, rfl⟩))
  go_quiet ((go_at_call 56; exact quiet_left (many_is _ _ hm _)))
  go_wp2
  go_ret
  exact ⟨rfl, below_drewN ((Below.refl _ _).alloc (Nat.le_refl _) _) _⟩
set_option maxHeartbeats 1000000 in
theorem valid_F_b6 (k0 k1 k2 k3 k4 : Int) (h0 : 0 ≤ k0) (h14 : k0 ≤ 14) (h1 : ¬ k0 = 1) (h2 : ¬ k0 = 2) (h3 : ¬ k0 = 3) (h5 : ¬ k0 = 5) (h6 : ¬ k0 = 6) (hm : Hid (manyOf k0 = 1)) (g0 : 0 ≤ k1) (g1 : k1 < 1) (g2 : 0 ≤ k2) (g3 : k2 ≤ 0) (g4 : 0 ≤ k3) (g5 : k3 ≤ 0) (g : ¬ k4 ≤ 0) (w : World) :
    Calls Tryd.prog 14 #[Value.agg #[.int .i64 k0, .int .i64 k1, .int .i64 k2, .int .i64 k3, .int .u32 k4]] w fun e w' => e = .returned (.int .i64 103) ∧ Below w.heap.size w w' := by
  have e1 : (k0 == 1) = false := by simpa using h1
  have e2 : (k0 == 2) = false := by simpa using h2
  have e3 : (k0 == 3) = false := by simpa using h3
  have e5 : (k0 == 5) = false := by simpa using h5
  have e6 : (k0 == 6) = false := by simpa using h6
  have e0 : decide (k0 < 0) = false := by rw [decide_eq_false_iff_not]; omega
  have e14 : decide (14 < k0) = false := by rw [decide_eq_false_iff_not]; omega
  have d0 : decide (k1 < 0) = false := by rw [decide_eq_false_iff_not]; omega
  have d1 : decide (1 ≤ k1) = false := by rw [decide_eq_false_iff_not]; omega
  have d2 : decide (k2 < 0) = false := by rw [decide_eq_false_iff_not]; omega
  have d3 : decide (0 < k2) = false := by rw [decide_eq_false_iff_not]; omega
  have d4 : decide (k3 < 0) = false := by rw [decide_eq_false_iff_not]; omega
  have d5 : decide (0 < k3) = false := by rw [decide_eq_false_iff_not]; omega
  have d6 : decide (0 < k4) = true := by rw [decide_eq_true_iff]; omega
  go_enter Tryd.func14, Tryd.ntmps14
  go_wp2_with (first | (go_at_call 56; refine (many_is _ _ hm _).mono ?_; rintro e w' ⟨rfl, rfl⟩))
  go_quiet ((go_at_call 56; exact quiet_left (many_is _ _ hm _)))
  go_wp2
  go_ret
  exact ⟨rfl, below_drewN ((Below.refl _ _).alloc (Nat.le_refl _) _) _⟩
end Go.Proofs.YtahhnfhnlffmpaaDoor
namespace Go.Proofs.YtahhnfhnlffmpaaDoor
open Go.ChangeShapes Go.WideShapes Go.ChangeAt Go.RowKit
set_option linter.unusedVariables false
def mostOf (k : Int) : Int := if 1 < manyOf k then 1048575 else 0
def rightsOf (k : Int) : Int := if k = 2 ∨ k = 3 then 7 else 0
def dataOf (k : Int) : Int := if k = 1 then 4294967295 else if k = 2 then 4 else if k = 5 ∨ k = 6 then 536870911 else 0
def InB (k0 k1 k2 k3 k4 : Int) : Prop := 0 ≤ k1 ∧ k1 < manyOf k0 ∧ 0 ≤ k2 ∧ k2 ≤ mostOf k0 ∧ 0 ≤ k3 ∧ k3 ≤ rightsOf k0 ∧ k4 ≤ dataOf k0
instance (k0 k1 k2 k3 k4 : Int) : Decidable (InB k0 k1 k2 k3 k4) := by unfold InB; infer_instance
/-- The error's number of a key that may not be; 0: it may. -/
def codeOf (k0 k1 k2 k3 k4 : Int) : Int := if k0 < 0 ∨ 14 < k0 then 102 else if InB k0 k1 k2 k3 k4 then 0 else 103
theorem codeOf_102 (k0 k1 k2 k3 k4 : Int) (h : k0 < 0 ∨ 14 < k0) : codeOf k0 k1 k2 k3 k4 = 102 := by unfold codeOf; rw [if_pos h]
theorem codeOf_0 (k0 k1 k2 k3 k4 : Int) (h : ¬ (k0 < 0 ∨ 14 < k0)) (hi : InB k0 k1 k2 k3 k4) : codeOf k0 k1 k2 k3 k4 = 0 := by unfold codeOf; rw [if_neg h, if_pos hi]
theorem codeOf_103 (k0 k1 k2 k3 k4 : Int) (h : ¬ (k0 < 0 ∨ 14 < k0)) (hi : ¬ InB k0 k1 k2 k3 k4) : codeOf k0 k1 k2 k3 k4 = 103 := by unfold codeOf; rw [if_neg h, if_neg hi]
theorem valid_1 (k1 k2 k3 k4 : Int) (gu : k4 ≤ 4294967295) (w : World) : Calls Tryd.prog 14 #[Value.agg #[.int .i64 1, .int .i64 k1, .int .i64 k2, .int .i64 k3, .int .u32 k4]] w fun e w' => e = .returned (.int .i64 (codeOf 1 k1 k2 k3 k4)) ∧ Below w.heap.size w w' := by
  have hm : manyOf 1 = 1 := rfl
  have nk : ¬ ((1 : Int) < 0 ∨ 14 < (1 : Int)) := by omega
  have hmo : mostOf 1 = 0 := rfl
  have hrg : rightsOf 1 = 0 := rfl
  have hda : dataOf 1 = 4294967295 := rfl
  by_cases g0 : 0 ≤ k1
  rotate_left
  · rw [codeOf_103 _ _ _ _ _ nk (by unfold InB; rw [hm, hmo, hrg, hda]; omega)]; exact valid_1_b0 k1 k2 k3 k4 (Lib.hid hm)  g0 w
  by_cases g1 : k1 < 1
  rotate_left
  · rw [codeOf_103 _ _ _ _ _ nk (by unfold InB; rw [hm, hmo, hrg, hda]; omega)]; exact valid_1_b1 k1 k2 k3 k4 (Lib.hid hm) g0 g1 w
  by_cases g2 : 0 ≤ k2
  rotate_left
  · rw [codeOf_103 _ _ _ _ _ nk (by unfold InB; rw [hm, hmo, hrg, hda]; omega)]; exact valid_1_b2 k1 k2 k3 k4 (Lib.hid hm) g0 g1 g2 w
  by_cases g3 : k2 ≤ 0
  rotate_left
  · rw [codeOf_103 _ _ _ _ _ nk (by unfold InB; rw [hm, hmo, hrg, hda]; omega)]; exact valid_1_b3 k1 k2 k3 k4 (Lib.hid hm) g0 g1 g2 g3 w
  by_cases g4 : 0 ≤ k3
  rotate_left
  · rw [codeOf_103 _ _ _ _ _ nk (by unfold InB; rw [hm, hmo, hrg, hda]; omega)]; exact valid_1_b4 k1 k2 k3 k4 (Lib.hid hm) g0 g1 g2 g3 g4 w
  by_cases g5 : k3 ≤ 0
  rotate_left
  · rw [codeOf_103 _ _ _ _ _ nk (by unfold InB; rw [hm, hmo, hrg, hda]; omega)]; exact valid_1_b5 k1 k2 k3 k4 (Lib.hid hm) g0 g1 g2 g3 g4 g5 w
  by_cases g6 : k4 ≤ 4294967295
  rotate_left
  · rw [codeOf_103 _ _ _ _ _ nk (by unfold InB; rw [hm, hmo, hrg, hda]; omega)]; exact valid_1_b6 k1 k2 k3 k4 (Lib.hid hm) g0 g1 g2 g3 g4 g5 g6 gu w
  rw [codeOf_0 _ _ _ _ _ nk (by unfold InB; rw [hm, hmo, hrg, hda]; omega)]; exact valid_1_ok k1 k2 k3 k4 (Lib.hid hm) g0 g1 g2 g3 g4 g5 g6 w
theorem valid_2 (k1 k2 k3 k4 : Int) (gu : k4 ≤ 4294967295) (w : World) : Calls Tryd.prog 14 #[Value.agg #[.int .i64 2, .int .i64 k1, .int .i64 k2, .int .i64 k3, .int .u32 k4]] w fun e w' => e = .returned (.int .i64 (codeOf 2 k1 k2 k3 k4)) ∧ Below w.heap.size w w' := by
  have hm : manyOf 2 = 256 := rfl
  have nk : ¬ ((2 : Int) < 0 ∨ 14 < (2 : Int)) := by omega
  have hmo : mostOf 2 = 1048575 := rfl
  have hrg : rightsOf 2 = 7 := rfl
  have hda : dataOf 2 = 4 := rfl
  by_cases g0 : 0 ≤ k1
  rotate_left
  · rw [codeOf_103 _ _ _ _ _ nk (by unfold InB; rw [hm, hmo, hrg, hda]; omega)]; exact valid_2_b0 k1 k2 k3 k4 (Lib.hid hm)  g0 w
  by_cases g1 : k1 < 256
  rotate_left
  · rw [codeOf_103 _ _ _ _ _ nk (by unfold InB; rw [hm, hmo, hrg, hda]; omega)]; exact valid_2_b1 k1 k2 k3 k4 (Lib.hid hm) g0 g1 w
  by_cases g2 : 0 ≤ k2
  rotate_left
  · rw [codeOf_103 _ _ _ _ _ nk (by unfold InB; rw [hm, hmo, hrg, hda]; omega)]; exact valid_2_b2 k1 k2 k3 k4 (Lib.hid hm) g0 g1 g2 w
  by_cases g3 : k2 ≤ 1048575
  rotate_left
  · rw [codeOf_103 _ _ _ _ _ nk (by unfold InB; rw [hm, hmo, hrg, hda]; omega)]; exact valid_2_b3 k1 k2 k3 k4 (Lib.hid hm) g0 g1 g2 g3 w
  by_cases g4 : 0 ≤ k3
  rotate_left
  · rw [codeOf_103 _ _ _ _ _ nk (by unfold InB; rw [hm, hmo, hrg, hda]; omega)]; exact valid_2_b4 k1 k2 k3 k4 (Lib.hid hm) g0 g1 g2 g3 g4 w
  by_cases g5 : k3 ≤ 7
  rotate_left
  · rw [codeOf_103 _ _ _ _ _ nk (by unfold InB; rw [hm, hmo, hrg, hda]; omega)]; exact valid_2_b5 k1 k2 k3 k4 (Lib.hid hm) g0 g1 g2 g3 g4 g5 w
  by_cases g6 : k4 ≤ 4
  rotate_left
  · rw [codeOf_103 _ _ _ _ _ nk (by unfold InB; rw [hm, hmo, hrg, hda]; omega)]; exact valid_2_b6 k1 k2 k3 k4 (Lib.hid hm) g0 g1 g2 g3 g4 g5 g6 w
  rw [codeOf_0 _ _ _ _ _ nk (by unfold InB; rw [hm, hmo, hrg, hda]; omega)]; exact valid_2_ok k1 k2 k3 k4 (Lib.hid hm) g0 g1 g2 g3 g4 g5 g6 w
theorem valid_3 (k1 k2 k3 k4 : Int) (gu : k4 ≤ 4294967295) (w : World) : Calls Tryd.prog 14 #[Value.agg #[.int .i64 3, .int .i64 k1, .int .i64 k2, .int .i64 k3, .int .u32 k4]] w fun e w' => e = .returned (.int .i64 (codeOf 3 k1 k2 k3 k4)) ∧ Below w.heap.size w w' := by
  have hm : manyOf 3 = 256 := rfl
  have nk : ¬ ((3 : Int) < 0 ∨ 14 < (3 : Int)) := by omega
  have hmo : mostOf 3 = 1048575 := rfl
  have hrg : rightsOf 3 = 7 := rfl
  have hda : dataOf 3 = 0 := rfl
  by_cases g0 : 0 ≤ k1
  rotate_left
  · rw [codeOf_103 _ _ _ _ _ nk (by unfold InB; rw [hm, hmo, hrg, hda]; omega)]; exact valid_3_b0 k1 k2 k3 k4 (Lib.hid hm)  g0 w
  by_cases g1 : k1 < 256
  rotate_left
  · rw [codeOf_103 _ _ _ _ _ nk (by unfold InB; rw [hm, hmo, hrg, hda]; omega)]; exact valid_3_b1 k1 k2 k3 k4 (Lib.hid hm) g0 g1 w
  by_cases g2 : 0 ≤ k2
  rotate_left
  · rw [codeOf_103 _ _ _ _ _ nk (by unfold InB; rw [hm, hmo, hrg, hda]; omega)]; exact valid_3_b2 k1 k2 k3 k4 (Lib.hid hm) g0 g1 g2 w
  by_cases g3 : k2 ≤ 1048575
  rotate_left
  · rw [codeOf_103 _ _ _ _ _ nk (by unfold InB; rw [hm, hmo, hrg, hda]; omega)]; exact valid_3_b3 k1 k2 k3 k4 (Lib.hid hm) g0 g1 g2 g3 w
  by_cases g4 : 0 ≤ k3
  rotate_left
  · rw [codeOf_103 _ _ _ _ _ nk (by unfold InB; rw [hm, hmo, hrg, hda]; omega)]; exact valid_3_b4 k1 k2 k3 k4 (Lib.hid hm) g0 g1 g2 g3 g4 w
  by_cases g5 : k3 ≤ 7
  rotate_left
  · rw [codeOf_103 _ _ _ _ _ nk (by unfold InB; rw [hm, hmo, hrg, hda]; omega)]; exact valid_3_b5 k1 k2 k3 k4 (Lib.hid hm) g0 g1 g2 g3 g4 g5 w
  by_cases g6 : k4 ≤ 0
  rotate_left
  · rw [codeOf_103 _ _ _ _ _ nk (by unfold InB; rw [hm, hmo, hrg, hda]; omega)]; exact valid_3_b6 k1 k2 k3 k4 (Lib.hid hm) g0 g1 g2 g3 g4 g5 g6 w
  rw [codeOf_0 _ _ _ _ _ nk (by unfold InB; rw [hm, hmo, hrg, hda]; omega)]; exact valid_3_ok k1 k2 k3 k4 (Lib.hid hm) g0 g1 g2 g3 g4 g5 g6 w
theorem valid_5 (k1 k2 k3 k4 : Int) (gu : k4 ≤ 4294967295) (w : World) : Calls Tryd.prog 14 #[Value.agg #[.int .i64 5, .int .i64 k1, .int .i64 k2, .int .i64 k3, .int .u32 k4]] w fun e w' => e = .returned (.int .i64 (codeOf 5 k1 k2 k3 k4)) ∧ Below w.heap.size w w' := by
  have hm : manyOf 5 = 32 := rfl
  have nk : ¬ ((5 : Int) < 0 ∨ 14 < (5 : Int)) := by omega
  have hmo : mostOf 5 = 1048575 := rfl
  have hrg : rightsOf 5 = 0 := rfl
  have hda : dataOf 5 = 536870911 := rfl
  by_cases g0 : 0 ≤ k1
  rotate_left
  · rw [codeOf_103 _ _ _ _ _ nk (by unfold InB; rw [hm, hmo, hrg, hda]; omega)]; exact valid_5_b0 k1 k2 k3 k4 (Lib.hid hm)  g0 w
  by_cases g1 : k1 < 32
  rotate_left
  · rw [codeOf_103 _ _ _ _ _ nk (by unfold InB; rw [hm, hmo, hrg, hda]; omega)]; exact valid_5_b1 k1 k2 k3 k4 (Lib.hid hm) g0 g1 w
  by_cases g2 : 0 ≤ k2
  rotate_left
  · rw [codeOf_103 _ _ _ _ _ nk (by unfold InB; rw [hm, hmo, hrg, hda]; omega)]; exact valid_5_b2 k1 k2 k3 k4 (Lib.hid hm) g0 g1 g2 w
  by_cases g3 : k2 ≤ 1048575
  rotate_left
  · rw [codeOf_103 _ _ _ _ _ nk (by unfold InB; rw [hm, hmo, hrg, hda]; omega)]; exact valid_5_b3 k1 k2 k3 k4 (Lib.hid hm) g0 g1 g2 g3 w
  by_cases g4 : 0 ≤ k3
  rotate_left
  · rw [codeOf_103 _ _ _ _ _ nk (by unfold InB; rw [hm, hmo, hrg, hda]; omega)]; exact valid_5_b4 k1 k2 k3 k4 (Lib.hid hm) g0 g1 g2 g3 g4 w
  by_cases g5 : k3 ≤ 0
  rotate_left
  · rw [codeOf_103 _ _ _ _ _ nk (by unfold InB; rw [hm, hmo, hrg, hda]; omega)]; exact valid_5_b5 k1 k2 k3 k4 (Lib.hid hm) g0 g1 g2 g3 g4 g5 w
  by_cases g6 : k4 ≤ 536870911
  rotate_left
  · rw [codeOf_103 _ _ _ _ _ nk (by unfold InB; rw [hm, hmo, hrg, hda]; omega)]; exact valid_5_b6 k1 k2 k3 k4 (Lib.hid hm) g0 g1 g2 g3 g4 g5 g6 w
  rw [codeOf_0 _ _ _ _ _ nk (by unfold InB; rw [hm, hmo, hrg, hda]; omega)]; exact valid_5_ok k1 k2 k3 k4 (Lib.hid hm) g0 g1 g2 g3 g4 g5 g6 w
theorem valid_6 (k1 k2 k3 k4 : Int) (gu : k4 ≤ 4294967295) (w : World) : Calls Tryd.prog 14 #[Value.agg #[.int .i64 6, .int .i64 k1, .int .i64 k2, .int .i64 k3, .int .u32 k4]] w fun e w' => e = .returned (.int .i64 (codeOf 6 k1 k2 k3 k4)) ∧ Below w.heap.size w w' := by
  have hm : manyOf 6 = 32 := rfl
  have nk : ¬ ((6 : Int) < 0 ∨ 14 < (6 : Int)) := by omega
  have hmo : mostOf 6 = 1048575 := rfl
  have hrg : rightsOf 6 = 0 := rfl
  have hda : dataOf 6 = 536870911 := rfl
  by_cases g0 : 0 ≤ k1
  rotate_left
  · rw [codeOf_103 _ _ _ _ _ nk (by unfold InB; rw [hm, hmo, hrg, hda]; omega)]; exact valid_6_b0 k1 k2 k3 k4 (Lib.hid hm)  g0 w
  by_cases g1 : k1 < 32
  rotate_left
  · rw [codeOf_103 _ _ _ _ _ nk (by unfold InB; rw [hm, hmo, hrg, hda]; omega)]; exact valid_6_b1 k1 k2 k3 k4 (Lib.hid hm) g0 g1 w
  by_cases g2 : 0 ≤ k2
  rotate_left
  · rw [codeOf_103 _ _ _ _ _ nk (by unfold InB; rw [hm, hmo, hrg, hda]; omega)]; exact valid_6_b2 k1 k2 k3 k4 (Lib.hid hm) g0 g1 g2 w
  by_cases g3 : k2 ≤ 1048575
  rotate_left
  · rw [codeOf_103 _ _ _ _ _ nk (by unfold InB; rw [hm, hmo, hrg, hda]; omega)]; exact valid_6_b3 k1 k2 k3 k4 (Lib.hid hm) g0 g1 g2 g3 w
  by_cases g4 : 0 ≤ k3
  rotate_left
  · rw [codeOf_103 _ _ _ _ _ nk (by unfold InB; rw [hm, hmo, hrg, hda]; omega)]; exact valid_6_b4 k1 k2 k3 k4 (Lib.hid hm) g0 g1 g2 g3 g4 w
  by_cases g5 : k3 ≤ 0
  rotate_left
  · rw [codeOf_103 _ _ _ _ _ nk (by unfold InB; rw [hm, hmo, hrg, hda]; omega)]; exact valid_6_b5 k1 k2 k3 k4 (Lib.hid hm) g0 g1 g2 g3 g4 g5 w
  by_cases g6 : k4 ≤ 536870911
  rotate_left
  · rw [codeOf_103 _ _ _ _ _ nk (by unfold InB; rw [hm, hmo, hrg, hda]; omega)]; exact valid_6_b6 k1 k2 k3 k4 (Lib.hid hm) g0 g1 g2 g3 g4 g5 g6 w
  rw [codeOf_0 _ _ _ _ _ nk (by unfold InB; rw [hm, hmo, hrg, hda]; omega)]; exact valid_6_ok k1 k2 k3 k4 (Lib.hid hm) g0 g1 g2 g3 g4 g5 g6 w
theorem valid_D (k0 k1 k2 k3 k4 : Int) (h0 : 0 ≤ k0) (h14 : k0 ≤ 14) (h1 : ¬ k0 = 1) (h2 : ¬ k0 = 2) (h3 : ¬ k0 = 3) (h5 : ¬ k0 = 5) (h6 : ¬ k0 = 6) (hm1 : 1 < manyOf k0) (gu : k4 ≤ 4294967295) (w : World) : Calls Tryd.prog 14 #[Value.agg #[.int .i64 k0, .int .i64 k1, .int .i64 k2, .int .i64 k3, .int .u32 k4]] w fun e w' => e = .returned (.int .i64 (codeOf k0 k1 k2 k3 k4)) ∧ Below w.heap.size w w' := by
  have hm : manyOf k0 = (manyOf k0) := rfl
  have nk : ¬ ((k0 : Int) < 0 ∨ 14 < (k0 : Int)) := by omega
  have hmo : mostOf k0 = 1048575 := by unfold mostOf; rw [if_pos hm1]
  have hrg : rightsOf k0 = 0 := by unfold rightsOf; rw [if_neg (by omega)]
  have hda : dataOf k0 = 0 := by unfold dataOf; rw [if_neg h1, if_neg h2, if_neg (by omega)]
  by_cases g0 : 0 ≤ k1
  rotate_left
  · rw [codeOf_103 _ _ _ _ _ nk (by unfold InB; rw [hm, hmo, hrg, hda]; omega)]; exact valid_D_b0 k0 k1 k2 k3 k4 (manyOf k0) h0 h14 h1 h2 h3 h5 h6 (Lib.hid hm) hm1  g0 w
  by_cases g1 : k1 < (manyOf k0)
  rotate_left
  · rw [codeOf_103 _ _ _ _ _ nk (by unfold InB; rw [hm, hmo, hrg, hda]; omega)]; exact valid_D_b1 k0 k1 k2 k3 k4 (manyOf k0) h0 h14 h1 h2 h3 h5 h6 (Lib.hid hm) hm1 g0 g1 w
  by_cases g2 : 0 ≤ k2
  rotate_left
  · rw [codeOf_103 _ _ _ _ _ nk (by unfold InB; rw [hm, hmo, hrg, hda]; omega)]; exact valid_D_b2 k0 k1 k2 k3 k4 (manyOf k0) h0 h14 h1 h2 h3 h5 h6 (Lib.hid hm) hm1 g0 g1 g2 w
  by_cases g3 : k2 ≤ 1048575
  rotate_left
  · rw [codeOf_103 _ _ _ _ _ nk (by unfold InB; rw [hm, hmo, hrg, hda]; omega)]; exact valid_D_b3 k0 k1 k2 k3 k4 (manyOf k0) h0 h14 h1 h2 h3 h5 h6 (Lib.hid hm) hm1 g0 g1 g2 g3 w
  by_cases g4 : 0 ≤ k3
  rotate_left
  · rw [codeOf_103 _ _ _ _ _ nk (by unfold InB; rw [hm, hmo, hrg, hda]; omega)]; exact valid_D_b4 k0 k1 k2 k3 k4 (manyOf k0) h0 h14 h1 h2 h3 h5 h6 (Lib.hid hm) hm1 g0 g1 g2 g3 g4 w
  by_cases g5 : k3 ≤ 0
  rotate_left
  · rw [codeOf_103 _ _ _ _ _ nk (by unfold InB; rw [hm, hmo, hrg, hda]; omega)]; exact valid_D_b5 k0 k1 k2 k3 k4 (manyOf k0) h0 h14 h1 h2 h3 h5 h6 (Lib.hid hm) hm1 g0 g1 g2 g3 g4 g5 w
  by_cases g6 : k4 ≤ 0
  rotate_left
  · rw [codeOf_103 _ _ _ _ _ nk (by unfold InB; rw [hm, hmo, hrg, hda]; omega)]; exact valid_D_b6 k0 k1 k2 k3 k4 (manyOf k0) h0 h14 h1 h2 h3 h5 h6 (Lib.hid hm) hm1 g0 g1 g2 g3 g4 g5 g6 w
  rw [codeOf_0 _ _ _ _ _ nk (by unfold InB; rw [hm, hmo, hrg, hda]; omega)]; exact valid_D_ok k0 k1 k2 k3 k4 (manyOf k0) h0 h14 h1 h2 h3 h5 h6 (Lib.hid hm) hm1 g0 g1 g2 g3 g4 g5 g6 w
theorem valid_F (k0 k1 k2 k3 k4 : Int) (h0 : 0 ≤ k0) (h14 : k0 ≤ 14) (h1 : ¬ k0 = 1) (h2 : ¬ k0 = 2) (h3 : ¬ k0 = 3) (h5 : ¬ k0 = 5) (h6 : ¬ k0 = 6) (hm0 : manyOf k0 = 1) (gu : k4 ≤ 4294967295) (w : World) : Calls Tryd.prog 14 #[Value.agg #[.int .i64 k0, .int .i64 k1, .int .i64 k2, .int .i64 k3, .int .u32 k4]] w fun e w' => e = .returned (.int .i64 (codeOf k0 k1 k2 k3 k4)) ∧ Below w.heap.size w w' := by
  have hm : manyOf k0 = 1 := hm0
  have nk : ¬ ((k0 : Int) < 0 ∨ 14 < (k0 : Int)) := by omega
  have hmo : mostOf k0 = 0 := by unfold mostOf; rw [hm0]; rfl
  have hrg : rightsOf k0 = 0 := by unfold rightsOf; rw [if_neg (by omega)]
  have hda : dataOf k0 = 0 := by unfold dataOf; rw [if_neg h1, if_neg h2, if_neg (by omega)]
  by_cases g0 : 0 ≤ k1
  rotate_left
  · rw [codeOf_103 _ _ _ _ _ nk (by unfold InB; rw [hm, hmo, hrg, hda]; omega)]; exact valid_F_b0 k0 k1 k2 k3 k4 h0 h14 h1 h2 h3 h5 h6 (Lib.hid hm)  g0 w
  by_cases g1 : k1 < 1
  rotate_left
  · rw [codeOf_103 _ _ _ _ _ nk (by unfold InB; rw [hm, hmo, hrg, hda]; omega)]; exact valid_F_b1 k0 k1 k2 k3 k4 h0 h14 h1 h2 h3 h5 h6 (Lib.hid hm) g0 g1 w
  by_cases g2 : 0 ≤ k2
  rotate_left
  · rw [codeOf_103 _ _ _ _ _ nk (by unfold InB; rw [hm, hmo, hrg, hda]; omega)]; exact valid_F_b2 k0 k1 k2 k3 k4 h0 h14 h1 h2 h3 h5 h6 (Lib.hid hm) g0 g1 g2 w
  by_cases g3 : k2 ≤ 0
  rotate_left
  · rw [codeOf_103 _ _ _ _ _ nk (by unfold InB; rw [hm, hmo, hrg, hda]; omega)]; exact valid_F_b3 k0 k1 k2 k3 k4 h0 h14 h1 h2 h3 h5 h6 (Lib.hid hm) g0 g1 g2 g3 w
  by_cases g4 : 0 ≤ k3
  rotate_left
  · rw [codeOf_103 _ _ _ _ _ nk (by unfold InB; rw [hm, hmo, hrg, hda]; omega)]; exact valid_F_b4 k0 k1 k2 k3 k4 h0 h14 h1 h2 h3 h5 h6 (Lib.hid hm) g0 g1 g2 g3 g4 w
  by_cases g5 : k3 ≤ 0
  rotate_left
  · rw [codeOf_103 _ _ _ _ _ nk (by unfold InB; rw [hm, hmo, hrg, hda]; omega)]; exact valid_F_b5 k0 k1 k2 k3 k4 h0 h14 h1 h2 h3 h5 h6 (Lib.hid hm) g0 g1 g2 g3 g4 g5 w
  by_cases g6 : k4 ≤ 0
  rotate_left
  · rw [codeOf_103 _ _ _ _ _ nk (by unfold InB; rw [hm, hmo, hrg, hda]; omega)]; exact valid_F_b6 k0 k1 k2 k3 k4 h0 h14 h1 h2 h3 h5 h6 (Lib.hid hm) g0 g1 g2 g3 g4 g5 g6 w
  rw [codeOf_0 _ _ _ _ _ nk (by unfold InB; rw [hm, hmo, hrg, hda]; omega)]; exact valid_F_ok k0 k1 k2 k3 k4 h0 h14 h1 h2 h3 h5 h6 (Lib.hid hm) g0 g1 g2 g3 g4 g5 g6 w
theorem valid_any (k0 k1 k2 k3 k4 : Int) (gu : k4 ≤ 4294967295) (w : World) : Calls Tryd.prog 14 #[(Value.agg #[.int .i64 k0, .int .i64 k1, .int .i64 k2, .int .i64 k3, .int .u32 k4])] w fun e w' => e = .returned (.int .i64 (codeOf k0 k1 k2 k3 k4)) ∧ Below w.heap.size w w' := by
  by_cases hk : k0 < 0
  · rw [codeOf_102 _ _ _ _ _ (.inl hk)]; exact valid_kind0 k0 k1 k2 k3 k4 hk w
  by_cases hk' : 14 < k0
  · rw [codeOf_102 _ _ _ _ _ (.inr hk')]; exact valid_kind1 k0 k1 k2 k3 k4 hk' w
  by_cases h1 : k0 = 1
  · subst h1; exact valid_1 k1 k2 k3 k4 gu w
  by_cases h2 : k0 = 2
  · subst h2; exact valid_2 k1 k2 k3 k4 gu w
  by_cases h3 : k0 = 3
  · subst h3; exact valid_3 k1 k2 k3 k4 gu w
  by_cases h5 : k0 = 5
  · subst h5; exact valid_5 k1 k2 k3 k4 gu w
  by_cases h6 : k0 = 6
  · subst h6; exact valid_6 k1 k2 k3 k4 gu w
  by_cases hD : k0 = 4 ∨ k0 = 7 ∨ k0 = 8 ∨ k0 = 9 ∨ k0 = 10
  · exact valid_D k0 k1 k2 k3 k4 (by omega) (by omega) h1 h2 h3 h5 h6 (by rcases hD with rfl | rfl | rfl | rfl | rfl <;> decide) gu w
  · exact valid_F k0 k1 k2 k3 k4 (by omega) (by omega) h1 h2 h3 h5 h6 (by unfold manyOf; rw [if_neg (by omega), if_neg (by omega), if_neg (by omega)]) gu w
theorem valid_is (k0 k1 k2 k3 k4 : Int) (c : Int) (h : Hid (codeOf k0 k1 k2 k3 k4 = c)) (gu : k4 ≤ 4294967295) (w : World) : Calls Tryd.prog 14 #[(Value.agg #[.int .i64 k0, .int .i64 k1, .int .i64 k2, .int .i64 k3, .int .u32 k4])] w fun e w' => e = .returned (.int .i64 c) ∧ Below w.heap.size w w' := by
  rw [← h.out]; exact valid_any k0 k1 k2 k3 k4 gu w
end Go.Proofs.YtahhnfhnlffmpaaDoor
namespace Go.Proofs.YtahhnfhnlffmpaaDoor
open Go.ChangeShapes Go.WideShapes Go.ChangeAt Go.RowKit
set_option linter.unusedVariables false
theorem keep5 {W w' : World} {b : Nat} {k0 k1 k2 k3 k4 : Int} (h : b < W.heap.size ∧ W.cell? ⟨b, 0, none⟩ = some (.int .i64 k0) ∧ W.cell? ⟨b, 1, none⟩ = some (.int .i64 k1) ∧ W.cell? ⟨b, 2, none⟩ = some (.int .i64 k2) ∧ W.cell? ⟨b, 3, none⟩ = some (.int .i64 k3) ∧ W.cell? ⟨b, 4, none⟩ = some (.int .u32 k4)) (hb : Below W.heap.size W w') : b < w'.heap.size ∧ w'.cell? ⟨b, 0, none⟩ = some (.int .i64 k0) ∧ w'.cell? ⟨b, 1, none⟩ = some (.int .i64 k1) ∧ w'.cell? ⟨b, 2, none⟩ = some (.int .i64 k2) ∧ w'.cell? ⟨b, 3, none⟩ = some (.int .i64 k3) ∧ w'.cell? ⟨b, 4, none⟩ = some (.int .u32 k4) := by
  obtain ⟨h2, h3, h4, h5, h6, h7⟩ := h
  have hc := (bcell hb).1
  have hz := hb.size
  exact ⟨by omega, by rw [hc _ _ h2]; exact h3, by rw [hc _ _ h2]; exact h4, by rw [hc _ _ h2]; exact h5, by rw [hc _ _ h2]; exact h6, by rw [hc _ _ h2]; exact h7⟩
theorem keep5_alloc {W : World} {b : Nat} {k0 k1 k2 k3 k4 : Int} (h : b < W.heap.size ∧ W.cell? ⟨b, 0, none⟩ = some (.int .i64 k0) ∧ W.cell? ⟨b, 1, none⟩ = some (.int .i64 k1) ∧ W.cell? ⟨b, 2, none⟩ = some (.int .i64 k2) ∧ W.cell? ⟨b, 3, none⟩ = some (.int .i64 k3) ∧ W.cell? ⟨b, 4, none⟩ = some (.int .u32 k4)) (o : Obj) : b < (W.alloc o).heap.size ∧ (W.alloc o).cell? ⟨b, 0, none⟩ = some (.int .i64 k0) ∧ (W.alloc o).cell? ⟨b, 1, none⟩ = some (.int .i64 k1) ∧ (W.alloc o).cell? ⟨b, 2, none⟩ = some (.int .i64 k2) ∧ (W.alloc o).cell? ⟨b, 3, none⟩ = some (.int .i64 k3) ∧ (W.alloc o).cell? ⟨b, 4, none⟩ = some (.int .u32 k4) := by
  refine keep5 h ?_
  exact (Below.refl _ _).alloc (Nat.le_refl _) _
theorem new5 (W : World) (k0 k1 k2 k3 k4 : Int) : W.heap.size < (W.alloc (.cells #[.int .i64 k0, .int .i64 k1, .int .i64 k2, .int .i64 k3, .int .u32 k4] 32)).heap.size ∧ (W.alloc (.cells #[.int .i64 k0, .int .i64 k1, .int .i64 k2, .int .i64 k3, .int .u32 k4] 32)).cell? ⟨W.heap.size, 0, none⟩ = some (.int .i64 k0) ∧ (W.alloc (.cells #[.int .i64 k0, .int .i64 k1, .int .i64 k2, .int .i64 k3, .int .u32 k4] 32)).cell? ⟨W.heap.size, 1, none⟩ = some (.int .i64 k1) ∧ (W.alloc (.cells #[.int .i64 k0, .int .i64 k1, .int .i64 k2, .int .i64 k3, .int .u32 k4] 32)).cell? ⟨W.heap.size, 2, none⟩ = some (.int .i64 k2) ∧ (W.alloc (.cells #[.int .i64 k0, .int .i64 k1, .int .i64 k2, .int .i64 k3, .int .u32 k4] 32)).cell? ⟨W.heap.size, 3, none⟩ = some (.int .i64 k3) ∧ (W.alloc (.cells #[.int .i64 k0, .int .i64 k1, .int .i64 k2, .int .i64 k3, .int .u32 k4] 32)).cell? ⟨W.heap.size, 4, none⟩ = some (.int .u32 k4) := by
  refine ⟨by simp, by simp, by simp, by simp, by simp, by simp⟩
theorem keepT {w W w' : World} {bx bx' bz : Nat} {k0 k1 k2 k3 k4 x y z : Int} (h : (w.heap.size < W.heap.size ∧ W.cell? ⟨w.heap.size, 0, none⟩ = some (.int .i64 k0) ∧ W.cell? ⟨w.heap.size, 1, none⟩ = some (.int .i64 k1) ∧ W.cell? ⟨w.heap.size, 2, none⟩ = some (.int .i64 k2) ∧ W.cell? ⟨w.heap.size, 3, none⟩ = some (.int .i64 k3) ∧ W.cell? ⟨w.heap.size, 4, none⟩ = some (.int .u32 k4)) ∧ (bx < W.heap.size ∧ W.cell? ⟨bx, 0, none⟩ = some (.int .i64 k0) ∧ W.cell? ⟨bx, 1, none⟩ = some (.int .i64 k1) ∧ W.cell? ⟨bx, 2, none⟩ = some (.int .i64 k2) ∧ W.cell? ⟨bx, 3, none⟩ = some (.int .i64 x) ∧ W.cell? ⟨bx, 4, none⟩ = some (.int .u32 k4)) ∧ (bx' < W.heap.size ∧ W.cell? ⟨bx', 0, none⟩ = some (.int .i64 k0) ∧ W.cell? ⟨bx', 1, none⟩ = some (.int .i64 k1) ∧ W.cell? ⟨bx', 2, none⟩ = some (.int .i64 k2) ∧ W.cell? ⟨bx', 3, none⟩ = some (.int .i64 y) ∧ W.cell? ⟨bx', 4, none⟩ = some (.int .u32 k4)) ∧ (bz < W.heap.size ∧ W.cell? ⟨bz, 0, none⟩ = some (.int .i64 k0) ∧ W.cell? ⟨bz, 1, none⟩ = some (.int .i64 k1) ∧ W.cell? ⟨bz, 2, none⟩ = some (.int .i64 k2) ∧ W.cell? ⟨bz, 3, none⟩ = some (.int .i64 z) ∧ W.cell? ⟨bz, 4, none⟩ = some (.int .u32 k4))) (hb : Below W.heap.size W w') : (w.heap.size < w'.heap.size ∧ w'.cell? ⟨w.heap.size, 0, none⟩ = some (.int .i64 k0) ∧ w'.cell? ⟨w.heap.size, 1, none⟩ = some (.int .i64 k1) ∧ w'.cell? ⟨w.heap.size, 2, none⟩ = some (.int .i64 k2) ∧ w'.cell? ⟨w.heap.size, 3, none⟩ = some (.int .i64 k3) ∧ w'.cell? ⟨w.heap.size, 4, none⟩ = some (.int .u32 k4)) ∧ (bx < w'.heap.size ∧ w'.cell? ⟨bx, 0, none⟩ = some (.int .i64 k0) ∧ w'.cell? ⟨bx, 1, none⟩ = some (.int .i64 k1) ∧ w'.cell? ⟨bx, 2, none⟩ = some (.int .i64 k2) ∧ w'.cell? ⟨bx, 3, none⟩ = some (.int .i64 x) ∧ w'.cell? ⟨bx, 4, none⟩ = some (.int .u32 k4)) ∧ (bx' < w'.heap.size ∧ w'.cell? ⟨bx', 0, none⟩ = some (.int .i64 k0) ∧ w'.cell? ⟨bx', 1, none⟩ = some (.int .i64 k1) ∧ w'.cell? ⟨bx', 2, none⟩ = some (.int .i64 k2) ∧ w'.cell? ⟨bx', 3, none⟩ = some (.int .i64 y) ∧ w'.cell? ⟨bx', 4, none⟩ = some (.int .u32 k4)) ∧ (bz < w'.heap.size ∧ w'.cell? ⟨bz, 0, none⟩ = some (.int .i64 k0) ∧ w'.cell? ⟨bz, 1, none⟩ = some (.int .i64 k1) ∧ w'.cell? ⟨bz, 2, none⟩ = some (.int .i64 k2) ∧ w'.cell? ⟨bz, 3, none⟩ = some (.int .i64 z) ∧ w'.cell? ⟨bz, 4, none⟩ = some (.int .u32 k4)) :=
  ⟨keep5 h.1 hb, keep5 h.2.1 hb, keep5 h.2.2.1 hb, keep5 h.2.2.2 hb⟩
end Go.Proofs.YtahhnfhnlffmpaaDoor
namespace Go.Proofs.YtahhnfhnlffmpaaDoor
open Go.ChangeShapes Go.WideShapes Go.ChangeAt Go.RowKit
set_option linter.unusedVariables false
def andI (a b : Int) : Int := bits BinOp.and IntKind.i64 a b
def orI (a b : Int) : Int := bits BinOp.or IntKind.i64 a b
theorem and8 (n m : Nat) (hm : m < 8) : n &&& m = (n % 8) &&& m := by
  have h1 : (n &&& m) < 8 := Nat.lt_of_le_of_lt Nat.and_le_right hm
  have h2 : (n &&& m) % 2 ^ 3 = (n % 2 ^ 3) &&& (m % 2 ^ 3) := Nat.and_mod_two_pow
  have e1 : (n &&& m) % 8 = n &&& m := Nat.mod_eq_of_lt h1
  have e2 : m % 8 = m := Nat.mod_eq_of_lt hm
  have h3 : (n &&& m) % 8 = (n % 8) &&& (m % 8) := h2
  rw [e1, e2] at h3
  exact h3
theorem and_fin : ∀ n : Fin 8, ∀ i : Fin 3, IntKind.i64.wrap ((n.val &&& 2 ^ i.val : Nat) : Int) = 0 ∨ IntKind.i64.wrap ((n.val &&& 2 ^ i.val : Nat) : Int) = ((2 ^ i.val : Nat) : Int) := by decide +kernel
theorem and_pow (a : Int) (i : Nat) (hi : i < 3) : andI a ((2 ^ i : Nat) : Int) = 0 ∨ andI a ((2 ^ i : Nat) : Int) = ((2 ^ i : Nat) : Int) := by
  have e : andI a ((2 ^ i : Nat) : Int) = IntKind.i64.wrap (((BitVec.ofInt 64 a).toNat &&& 2 ^ i : Nat) : Int) := by
    show IntKind.i64.wrap ((BitVec.ofInt 64 a &&& BitVec.ofInt 64 ((2 ^ i : Nat) : Int)).toNat : Int) = _
    rw [BitVec.toNat_and, BitVec.ofInt_natCast, BitVec.toNat_ofNat, Nat.mod_eq_of_lt (a := 2 ^ i)]
    exact Nat.pow_lt_pow_right (by decide) (by omega)
  have h8 : 2 ^ i < 8 := Nat.pow_lt_pow_right (m := i) (n := 3) (by decide) hi
  rw [e, and8 _ _ h8]
  exact and_fin ⟨(BitVec.ofInt 64 a).toNat % 8, Nat.mod_lt _ (by decide)⟩ ⟨i, hi⟩
theorem and1 (a : Int) : andI a 1 = 0 ∨ andI a 1 = 1 := and_pow a 0 (by decide)
theorem and2 (a : Int) : andI a 2 = 0 ∨ andI a 2 = 2 := and_pow a 1 (by decide)
theorem and4 (a : Int) : andI a 4 = 0 ∨ andI a 4 = 4 := and_pow a 2 (by decide)
def In8 (x : Int) : Prop := 0 ≤ x ∧ x ≤ 7
theorem In8.fin {x : Int} (h : In8 x) : ∃ n : Fin 8, x = (n.val : Int) := by obtain ⟨h1, h2⟩ := h; exact ⟨⟨x.toNat, by omega⟩, by simp; omega⟩
theorem In8.of (n : Fin 8) : In8 (n.val : Int) := ⟨by omega, by have := n.isLt; omega⟩
theorem or_fin : ∀ n : Fin 8, ∀ m : Fin 3, ∃ r : Fin 8, orI (n.val : Int) ((2 ^ m.val : Nat) : Int) = (r.val : Int) ∧ ∀ q : Fin 8, (andI (n.val : Int) (q.val : Int) == (q.val : Int)) = true → (andI (r.val : Int) (q.val : Int) == (q.val : Int)) = true := by decide +kernel
theorem self_fin : ∀ n : Fin 8, (andI (n.val : Int) (n.val : Int) == (n.val : Int)) = true := by decide +kernel
theorem trans_fin : ∀ x y z : Fin 8, (andI (x.val : Int) (y.val : Int) == (y.val : Int)) = true → (andI (y.val : Int) (z.val : Int) == (z.val : Int)) = true → (andI (x.val : Int) (z.val : Int) == (z.val : Int)) = true := by decide +kernel
theorem both_fin : ∀ x y : Fin 8, ((andI (x.val : Int) (y.val : Int) == (y.val : Int)) && (andI (y.val : Int) (x.val : Int) == (x.val : Int))) = ((x.val : Int) == (y.val : Int)) := by decide +kernel
/-- One right less: within 0 to 7, and what was lacked before is lacked still. -/
theorem lessOne_in (n : Int) (hn : In8 n) (x : Int) (hx : x = 0 ∨ x = 1 ∨ x = 2 ∨ x = 4) : In8 (lessOne n x) ∧ ∀ q, In8 q → (andI n q == q) = true → (andI (lessOne n x) q == q) = true := by
  obtain ⟨n, rfl⟩ := hn.fin
  rcases hx with rfl | hx
  · exact ⟨hn, fun q _ h => h⟩
  · have hm : ∃ m : Fin 3, x = ((2 ^ m.val : Nat) : Int) := by rcases hx with rfl | rfl | rfl; exact ⟨0, rfl⟩; exact ⟨1, rfl⟩; exact ⟨2, rfl⟩
    have e : lessOne (n.val : Int) x = orI (n.val : Int) x := if_pos hx
    obtain ⟨m, rfl⟩ := hm
    obtain ⟨r, hr, hq⟩ := or_fin n m
    rw [e, hr]
    exact ⟨In8.of r, fun q h8 h => by obtain ⟨q, rfl⟩ := h8.fin; exact hq q h⟩
theorem lessK_in (k0 k3 a b c : Int) (h3 : In8 k3) (ha : a = 0 ∨ a = 1 ∨ a = 2 ∨ a = 4) (hb : b = 0 ∨ b = 1 ∨ b = 2 ∨ b = 4) (hc : c = 0 ∨ c = 1 ∨ c = 2 ∨ c = 4) : In8 (lessK k0 k3 [a, b, c]) ∧ (andI (lessK k0 k3 [a, b, c]) k3 == k3) = true := by
  have hs : (andI k3 k3 == k3) = true := by obtain ⟨n, rfl⟩ := h3.fin; exact self_fin n
  unfold lessK
  split
  · have h1 := lessOne_in k3 h3 a ha
    have h2 := lessOne_in _ h1.1 b hb
    have h4 := lessOne_in _ h2.1 c hc
    exact ⟨h4.1, h4.2 _ h3 (h2.2 _ h3 (h1.2 _ h3 hs))⟩
  · exact ⟨h3, hs⟩
theorem rights_in (k0 k1 k2 k3 k4 : Int) (h : codeOf k0 k1 k2 k3 k4 = 0) : In8 k3 := by
  unfold codeOf at h
  by_cases h1 : k0 < 0 ∨ 14 < k0
  · rw [if_pos h1] at h; omega
  rw [if_neg h1] at h
  by_cases h2 : InB k0 k1 k2 k3 k4
  · unfold InB at h2
    have : rightsOf k0 ≤ 7 := by unfold rightsOf; split <;> omega
    exact ⟨h2.2.2.2.2.1, by omega⟩
  · rw [if_neg h2] at h; omega
theorem fits32 {a : Int} (h : (Lit.int .u32 a).wf = true) : a ≤ 4294967295 := by
  have h : 0 ≤ a ∧ a ≤ 4294967295 := by simpa [Lit.wf, IntKind.min, IntKind.max, IntKind.signed, IntKind.bits] using h
  exact h.2
theorem code_cases (k0 k1 k2 k3 k4 : Int) : codeOf k0 k1 k2 k3 k4 = 0 ∨ codeOf k0 k1 k2 k3 k4 = 102 ∨ codeOf k0 k1 k2 k3 k4 = 103 := by
  unfold codeOf; split
  · exact .inr (.inl rfl)
  · split
    · exact .inl rfl
    · exact .inr (.inr rfl)
end Go.Proofs.YtahhnfhnlffmpaaDoor
namespace Go.Proofs.YtahhnfhnlffmpaaDoor
open Go.ChangeShapes Go.WideShapes Go.ChangeAt Go.RowKit
set_option linter.unusedVariables false
theorem rweaken_mem (k0 k1 k2 k3 k4 : Int) (r3 : Int) (h : k0 = 2 ∨ k0 = 3) (h3 : Hid (bits BinOp.or IntKind.i64 (bits BinOp.or IntKind.i64 k3 1) 4 = r3)) (w : World) :
    Calls Tryd.prog 98 #[(Value.agg #[.int .i64 k0, .int .i64 k1, .int .i64 k2, .int .i64 k3, .int .u32 k4])] w
      fun e w' => e = .returned (.agg #[.int .i64 k0, .int .i64 k1, .int .i64 k2, .int .i64 r3, .int .u32 k4]) ∧ Below w.heap.size w w' := by
  rw [← h3.out]
  rcases h with rfl | rfl
  all_goals
    go_enter Tryd.func98, Tryd.ntmps98
    go_wp2
    refine bodyPost_ret (v := .agg #[.int .i64 _, .int .i64 k1, .int .i64 k2, .int .i64 (bits BinOp.or IntKind.i64 (bits BinOp.or IntKind.i64 k3 1) 4), .int .u32 k4]) (by simp [results, Tryd.results98, go_sem]) rfl ⟨rfl, ((Below.refl _ _).alloc (Nat.le_refl _) _).alloc (by simp) _⟩
theorem rweaken_same (k0 k1 k2 k3 k4 : Int) (h : k0 = 0 ∨ k0 = 1 ∨ k0 = 12 ∨ k0 = 14) (w : World) :
    Calls Tryd.prog 98 #[(Value.agg #[.int .i64 k0, .int .i64 k1, .int .i64 k2, .int .i64 k3, .int .u32 k4])] w fun e w' => e = .returned (Value.agg #[.int .i64 k0, .int .i64 k1, .int .i64 k2, .int .i64 k3, .int .u32 k4]) ∧ Below w.heap.size w w' := by
  rcases h with rfl | rfl | rfl | rfl
  all_goals
    go_enter Tryd.func98, Tryd.ntmps98
    go_wp2
    refine bodyPost_ret (v := .agg #[.int .i64 _, .int .i64 k1, .int .i64 k2, .int .i64 k3, .int .u32 k4]) (by simp [results, Tryd.results98, go_sem]) rfl ⟨rfl, ((Below.refl _ _).alloc (Nat.le_refl _) _).alloc (by simp) _⟩
theorem rweaken_void (k0 k1 k2 k3 k4 : Int) (h0 : ¬ k0 = 0) (h1 : ¬ k0 = 1) (h2 : ¬ k0 = 2) (h3 : ¬ k0 = 3) (h12 : ¬ k0 = 12) (h14 : ¬ k0 = 14) (w : World) :
    Calls Tryd.prog 98 #[(Value.agg #[.int .i64 k0, .int .i64 k1, .int .i64 k2, .int .i64 k3, .int .u32 k4])] w
      fun e w' => e = .returned (.agg #[.int .i64 0, .int .i64 0, .int .i64 0, .int .i64 0, .int .u32 0]) ∧ Below w.heap.size w w' := by
  go_enter Tryd.func98, Tryd.ntmps98
  go_wp2
  refine bodyPost_ret (v := .agg #[.int .i64 0, .int .i64 0, .int .i64 0, .int .i64 0, .int .u32 0]) (by simp [results, Tryd.results98, go_sem]) rfl ⟨rfl, ((Below.refl _ _).alloc (Nat.le_refl _) _).alloc (by simp) _⟩
theorem or14_fin : ∀ n : Fin 8, orI (orI (n.val : Int) 1) 4 = orI (n.val : Int) 5 := by decide +kernel
theorem rweaken_any (k0 k1 k2 k3 k4 : Int) (r0 r1 r2 r3 r4 : Int) (h8 : In8 k3) (h : Hid (Wk [k0, k1, k2, k3, k4] [r0, r1, r2, r3, r4])) (w : World) :
    Calls Tryd.prog 98 #[(Value.agg #[.int .i64 k0, .int .i64 k1, .int .i64 k2, .int .i64 k3, .int .u32 k4])] w fun e w' => e = .returned (Value.agg #[.int .i64 r0, .int .i64 r1, .int .i64 r2, .int .i64 r3, .int .u32 r4]) ∧ Below w.heap.size w w' := by
  rcases h.out with ⟨hk, hr⟩ | ⟨hk, hr⟩ | ⟨hk, hr⟩
  · simp only [List.getD_cons_zero, List.getD_cons_succ, List.cons.injEq, and_true] at hk hr
    obtain ⟨rfl, rfl, rfl, rfl, rfl⟩ := hr
    exact rweaken_mem _ _ _ _ _ _ hk (Lib.hid (by obtain ⟨n, rfl⟩ := h8.fin; exact or14_fin n)) w
  · simp only [List.getD_cons_zero, List.getD_cons_succ, List.cons.injEq, and_true] at hk hr
    obtain ⟨rfl, rfl, rfl, rfl, rfl⟩ := hr
    exact rweaken_same _ _ _ _ _ hk w
  · simp only [List.getD_cons_zero, List.cons.injEq, and_true] at hk hr
    obtain ⟨rfl, rfl, rfl, rfl, rfl⟩ := hr
    exact rweaken_void _ _ _ _ _ hk.1 hk.2.1 hk.2.2.1 hk.2.2.2.1 hk.2.2.2.2.1 hk.2.2.2.2.2 w
theorem rsensory_any (k0 k1 k2 k3 k4 : Int) (r0 r1 r2 r3 r4 : Int) (t : Bool) (h8 : In8 k3) (h : Hid (Wk [k0, k1, k2, k3, k4] [r0, r1, r2, r3, r4])) (ht : Hid (sameB r0 r1 r2 r3 r4 k0 k1 k2 k3 k4 = t)) (w : World) :
    Calls Tryd.prog 89 #[(Value.agg #[.int .i64 k0, .int .i64 k1, .int .i64 k2, .int .i64 k3, .int .u32 k4])] w fun e w' => e = .returned (.bool t) ∧ Below w.heap.size w w' := by
  have st := start1 w k0 k1 k2 k3 k4
  have ST := Lib.hid st
  clear st
  go_enter Tryd.func89, Tryd.ntmps89
  go_wp2
  go_region_held3 (fun w' => Below w.heap.size w w' ∧ w.heap.size < w'.heap.size ∧ w'.cell? ⟨w.heap.size, 0, none⟩ = some (.int .i64 k0) ∧ w'.cell? ⟨w.heap.size, 1, none⟩ = some (.int .i64 k1) ∧ w'.cell? ⟨w.heap.size, 2, none⟩ = some (.int .i64 k2) ∧ w'.cell? ⟨w.heap.size, 3, none⟩ = some (.int .i64 k3) ∧ w'.cell? ⟨w.heap.size, 4, none⟩ = some (.int .u32 k4)) (first | exact ST.out | exact keep1 _ _ _ _ _ (by assumption) hb)
    (first | (go_at_call 98; refine (rweaken_any _ _ _ _ _ _ _ _ _ _ h8 h _).mono ?_; rintro e w' ⟨rfl, hb⟩) | (go_at_call 20; refine (same_is _ _ _ _ _ _ _ _ _ _ t ht _).mono ?_; rintro e w' ⟨rfl, hb⟩))
  go_wp2
  go_ret
  refine ⟨rfl, ?_⟩
  apply And.left
  assumption
theorem sensory_no (k0 k1 k2 k3 k4 : Int) (r0 r1 r2 r3 r4 : Int) (h : Hid (Wk [k0, k1, k2, k3, k4] [r0, r1, r2, r3, r4])) (ht : (k0 == r0) = false ∨ (k0 = r0 ∧ k1 = r1 ∧ k2 = r2 ∧ (k3 == r3) = false)) (w : World) :
    Calls Tryd.prog 100 #[(Value.agg #[.int .i64 k0, .int .i64 k1, .int .i64 k2, .int .i64 k3, .int .u32 k4])] w fun e w' => e = .returned (.bool false) ∧ Below w.heap.size w w' := by
  have st := start1 w k0 k1 k2 k3 k4
  have ST := Lib.hid st
  clear st
  rcases ht with ht | ⟨rfl, rfl, rfl, ht⟩
  all_goals
    go_enter Tryd.func100, Tryd.ntmps100
    go_wp2
    go_region_held3 (fun w' => Below w.heap.size w w' ∧ w.heap.size < w'.heap.size ∧ w'.cell? ⟨w.heap.size, 0, none⟩ = some (.int .i64 k0) ∧ w'.cell? ⟨w.heap.size, 1, none⟩ = some (.int .i64 k1) ∧ w'.cell? ⟨w.heap.size, 2, none⟩ = some (.int .i64 k2) ∧ w'.cell? ⟨w.heap.size, 3, none⟩ = some (.int .i64 k3) ∧ w'.cell? ⟨w.heap.size, 4, none⟩ = some (.int .u32 k4)) (first | exact ST.out | exact keep1 _ _ _ _ _ (by assumption) hb)
      (first | (go_at_call 104; refine (weaken_any _ _ _ _ _ _ _ _ _ _ h _).mono ?_; rintro e w' ⟨rfl, hb⟩))
    go_wp2
    go_ret
    refine ⟨rfl, ?_⟩
    apply And.left
    assumption
/-- Does a give no more than b? -/
def withinB (a0 a1 a2 a3 a4 b0 b1 b2 b3 b4 : Int) : Bool := (bits BinOp.and IntKind.i64 a3 b3 == b3) && sameB a0 a1 a2 0 a4 b0 b1 b2 0 b4
theorem RowI.below {W w' : World} {a : Option Addr} {len : Nat} {xs : List Int} (h : RowI W a len xs) (hb : Below W.heap.size W w') : RowI w' a len xs := by
  obtain ⟨h1, h2⟩ := h
  refine ⟨h1, ?_⟩
  rcases h2 with h2 | ⟨b, off, rfl, hl, hc⟩
  · exact .inl h2
  · exact .inr ⟨b, off, rfl, Nat.lt_of_lt_of_le hl hb.size, fun i hi => (hb.cell (p := ⟨b, off + i, none⟩) hl).trans (hc i hi)⟩
end Go.Proofs.YtahhnfhnlffmpaaDoor
namespace Go.Proofs.YtahhnfhnlffmpaaDoor
open Go.ChangeShapes Go.WideShapes Go.ChangeAt Go.RowKit Go.Maps
set_option linter.unusedVariables false
theorem look_empty (M c : Nat) (a b : Int) (w : World) (hM : w.heap[M]? = some (.map #[] c)) : (Instr.lookup 164 (.map (some M)) (.agg #[.int .i64 a, .int .i64 b]) true).run Tryd.prog w = .ok (.tuple #[.int .i64 0, .bool false]) w := by
  have h1 : (Instr.checkKey true 10000 177 (.agg #[.int .i64 a, .int .i64 b])).run Tryd.prog w = .ok () w := by kernel_rfl
  have h2 : (Instr.findKey 177 (.agg #[.int .i64 a, .int .i64 b]) []).run Tryd.prog w = .ok none w := by kernel_rfl
  have hz : (zeroValue 3).run Tryd.prog w = .ok (.int .i64 0) w := by kernel_rfl
  simp [Instr.lookup, run_underlying Tryd.underlying164, h1, h2, hz, MapKept.run_getObj_map hM, Result.andThen]
theorem make_b (w : World) : (Instr.makeSlice 29 (.int .i64 0) (.int .i64 0)).run Tryd.prog w = .ok (.slice (some ⟨w.heap.size, 0, none⟩) 0 0) (w.alloc (.cells #[] 4)) := by kernel_rfl
theorem make_i (w : World) : (Instr.makeSlice 179 (.int .i64 0) (.int .i64 0)).run Tryd.prog w = .ok (.slice (some ⟨w.heap.size, 0, none⟩) 0 0) (w.alloc (.cells #[] 56)) := by kernel_rfl
set_option maxRecDepth 100000 in
set_option maxHeartbeats 4000000 in
theorem look_none (w : World) : Calls Tryd.prog 91 #[.slice none 0 0] w fun e w' => ∃ M a, e = .returned ((Value.agg #[.map (some (M)), .slice (a) 0 0])) ∧ w'.heap[M]? = some (.map #[] 0) ∧ Below w.heap.size w w' := by
  have hmm := @run_makeMap Tryd.prog
  have m1 := make_b
  have m2 := make_i
  go_enter Tryd.func91, Tryd.ntmps91
  go_wp2
  refine wp_loop_rounds 1 ?_
  rw [rounds_succ]
  go_wp2
  refine wp_loop_rounds 1 ?_
  rw [rounds_succ]
  go_wp2
  refine wp_loop_rounds 1 ?_
  rw [rounds_succ]
  go_wp2
  refine bodyPost_ret (v := (Value.agg #[.map (some (w.heap.size + 1)), .slice (some ⟨w.heap.size + 1 + 1, 0, none⟩) 0 0])) (by simp [results, Tryd.results91, go_sem]) rfl ⟨_, _, rfl, ?_, ?_⟩
  · have h := heap_alloc_new (w.alloc (.cells #[.map (some (w.heap.size + 1)), .slice (some ⟨w.heap.size + 1 + 1, 0, none⟩) 0 0] 166)) (.map #[] 0)
    have e : (w.alloc (.cells #[.map (some (w.heap.size + 1)), .slice (some ⟨w.heap.size + 1 + 1, 0, none⟩) 0 0] 166)).heap.size = w.heap.size + 1 := by simp
    rw [e] at h
    exact (Below.heap_alloc _ _ _ (by first | (simp; done) | (simp; omega))).trans ((Below.heap_alloc _ _ _ (by first | (simp; done) | (simp; omega))).trans ((Below.heap_alloc _ _ _ (by first | (simp; done) | (simp; omega))).trans h))
  · exact (((((Below.refl _ _).alloc (Nat.le_refl _) _).alloc (by simp) _).alloc (by simp; omega) _).alloc (by simp; omega) _).alloc (by simp; omega) _
theorem factory_is (k0 k1 k2 k3 k4 : Int) (M : Nat) (a : Option Addr) (w : World) (hM : w.heap[M]? = some (.map #[] 0)) :
    Calls Tryd.prog 99 #[(Value.agg #[.map (some (M)), .slice (a) 0 0]), (Value.agg #[.int .i64 k0, .int .i64 k1, .int .i64 k2, .int .i64 k3, .int .u32 k4])] w fun e w' => e = .returned (.tuple #[.int .i64 0, .bool false]) ∧ Below w.heap.size w w' := by
  by_cases h9 : k0 = 9
  · subst h9
    have hl : (Instr.lookup 164 (.map (some M)) (.agg #[.int .i64 k1, .int .i64 k2]) true).run Tryd.prog ((w.alloc (.cells #[.map (some M), .slice a 0 0] 166)).alloc (.cells #[.int .i64 9, .int .i64 k1, .int .i64 k2, .int .i64 k3, .int .u32 k4] 32)) = .ok (.tuple #[.int .i64 0, .bool false]) ((w.alloc (.cells #[.map (some M), .slice a 0 0] 166)).alloc (.cells #[.int .i64 9, .int .i64 k1, .int .i64 k2, .int .i64 k3, .int .u32 k4] 32)) := look_empty M 0 k1 k2 _ (by
      have hlt : M < w.heap.size := by
        rcases Nat.lt_or_ge M w.heap.size with h' | h'
        · exact h'
        · simp [Array.getElem?_eq_none h'] at hM
      exact (Below.heap_alloc _ _ _ (by simp; omega)).trans ((Below.heap_alloc _ _ _ hlt).trans hM))
    clear hM
    go_enter Tryd.func99, Tryd.ntmps99
    go_wp2
    go_ret2
    exact ⟨rfl, ((Below.refl _ _).alloc (Nat.le_refl _) _).alloc (by simp) _⟩
  · have e9 : (k0 == 9) = false := by simpa using h9
    clear hM
    go_enter Tryd.func99, Tryd.ntmps99
    go_wp2
    go_ret2
    exact ⟨rfl, ((Below.refl _ _).alloc (Nat.le_refl _) _).alloc (by simp) _⟩
def Sens (k0 k1 k2 k3 k4 : Int) (t : Bool) : Prop := ∀ W, Calls Tryd.prog 100 #[(Value.agg #[.int .i64 k0, .int .i64 k1, .int .i64 k2, .int .i64 k3, .int .u32 k4])] W fun e w' => e = .returned (.bool t) ∧ Below W.heap.size W w'
theorem Sens.at {k0 k1 k2 k3 k4 : Int} {t : Bool} (h : Sens k0 k1 k2 k3 k4 t) (W : World) : Calls Tryd.prog 100 #[(Value.agg #[.int .i64 k0, .int .i64 k1, .int .i64 k2, .int .i64 k3, .int .u32 k4])] W fun e w' => e = .returned (.bool t) ∧ Below W.heap.size W w' := h W
set_option maxRecDepth 100000 in
theorem ishole_is (k0 k1 k2 k3 k4 : Int) (t : Bool) (M : Nat) (a : Option Addr) (hS : Sens k0 k1 k2 k3 k4 t) (w : World) (hM : w.heap[M]? = some (.map #[] 0)) :
    Calls Tryd.prog 92 #[(Value.agg #[.map (some (M)), .slice (a) 0 0]), (Value.agg #[.int .i64 k0, .int .i64 k1, .int .i64 k2, .int .i64 k3, .int .u32 k4])] w fun e w' => e = .returned (.bool (!t)) ∧ Below w.heap.size w w' := by
  have hlt : M < w.heap.size := by
    rcases Nat.lt_or_ge M w.heap.size with h' | h'
    · exact h'
    · simp [Array.getElem?_eq_none h'] at hM
  have HM : Hid (((w.alloc (.cells #[.map (some M), .slice a 0 0] 166)).alloc (.cells #[.int .i64 k0, .int .i64 k1, .int .i64 k2, .int .i64 k3, .int .u32 k4] 32)).heap[M]? = some (.map #[] 0)) := Lib.hid ((Below.heap_alloc _ _ _ (by simp; omega)).trans ((Below.heap_alloc _ _ _ hlt).trans hM))
  have HS := Lib.hid hS
  clear hM hS
  go_enter Tryd.func92, Tryd.ntmps92
  go_wp2_with (first
    | (go_at_call 99; (with_reducible refine (factory_is k0 k1 k2 k3 k4 M a _ HM.out).mono ?_); rintro e w1 ⟨rfl, hb⟩; obtain ⟨hc, hf⟩ := bcell hb; have HB := Lib.hid (Below.trans (((Below.refl _ _).alloc (Nat.le_refl _) _).alloc (by simp) _) (hb.mono (by simp; omega))); have hz : w.heap.size + 1 < w1.heap.size := by { have := hb.size; simp at this; omega }; clear hb)
    | (go_at_call 100; (with_reducible refine (HS.out.at _).mono ?_); rintro e w2 ⟨rfl, hb2⟩; have HB2 := Lib.hid (HB.out.trans (hb2.mono HB.out.size)); clear hb2))
  go_ret
  exact ⟨rfl, HB2.out⟩
theorem keep7 {W w w' : World} {B C : Nat} {k0 k1 k2 k3 k4 r0 r1 r2 r3 r4 : Int} (h : Below W.heap.size W w ∧ (B < w.heap.size ∧ w.cell? ⟨B, 0, none⟩ = some (.int .i64 k0) ∧ w.cell? ⟨B, 1, none⟩ = some (.int .i64 k1) ∧ w.cell? ⟨B, 2, none⟩ = some (.int .i64 k2) ∧ w.cell? ⟨B, 3, none⟩ = some (.int .i64 k3) ∧ w.cell? ⟨B, 4, none⟩ = some (.int .u32 k4)) ∧ (C < w.heap.size ∧ w.cell? ⟨C, 0, none⟩ = some (.int .i64 r0) ∧ w.cell? ⟨C, 1, none⟩ = some (.int .i64 r1) ∧ w.cell? ⟨C, 2, none⟩ = some (.int .i64 r2) ∧ w.cell? ⟨C, 3, none⟩ = some (.int .i64 r3) ∧ w.cell? ⟨C, 4, none⟩ = some (.int .u32 r4))) (hb : Below w.heap.size w w') : Below W.heap.size W w' ∧ (B < w'.heap.size ∧ w'.cell? ⟨B, 0, none⟩ = some (.int .i64 k0) ∧ w'.cell? ⟨B, 1, none⟩ = some (.int .i64 k1) ∧ w'.cell? ⟨B, 2, none⟩ = some (.int .i64 k2) ∧ w'.cell? ⟨B, 3, none⟩ = some (.int .i64 k3) ∧ w'.cell? ⟨B, 4, none⟩ = some (.int .u32 k4)) ∧ (C < w'.heap.size ∧ w'.cell? ⟨C, 0, none⟩ = some (.int .i64 r0) ∧ w'.cell? ⟨C, 1, none⟩ = some (.int .i64 r1) ∧ w'.cell? ⟨C, 2, none⟩ = some (.int .i64 r2) ∧ w'.cell? ⟨C, 3, none⟩ = some (.int .i64 r3) ∧ w'.cell? ⟨C, 4, none⟩ = some (.int .u32 r4)) := ⟨h.1.trans (hb.mono h.1.size), keep5 h.2.1 hb, keep5 h.2.2 hb⟩
theorem or55 : ∀ n : Fin 8, orI (orI (n.val : Int) 5) 5 = orI (n.val : Int) 5 := by decide +kernel
end Go.Proofs.YtahhnfhnlffmpaaDoor
namespace Go.Proofs.YtahhnfhnlffmpaaDoor
set_option linter.unusedVariables false
/-- Factories as far as holes go: how many; of each: is it sealed, how many parts; of each part: to which of them it leads, is it sensory. -/
structure Fac where
  n : Nat
  sl : Nat → Bool
  ct : Nat → Nat
  tg : Nat → Nat → Option Nat
  sn : Nat → Nat → Bool
def anyTo (p : Nat → Bool) : Nat → Bool
  | 0 => false
  | n + 1 => anyTo p n || p n
theorem anyTo_iff (p : Nat → Bool) : ∀ n, anyTo p n = true ↔ ∃ j, j < n ∧ p j = true
  | 0 => by simp [anyTo]
  | n + 1 => by
    unfold anyTo
    rw [Bool.or_eq_true, anyTo_iff p n]
    constructor
    · rintro (⟨j, hj, h⟩ | h)
      · exact ⟨j, by omega, h⟩
      · exact ⟨n, by omega, h⟩
    · rintro ⟨j, hj, h⟩
      by_cases e : j = n
      · exact .inr (e ▸ h)
      · exact .inl ⟨j, by omega, h⟩
/-- Is a part a hole by itself? -/
def Fac.own (F : Fac) (i j : Nat) : Bool := (F.tg i j).isNone && !F.sn i j
/-- Does one reach out by itself, of its first m parts? -/
def Fac.baseTo (F : Fac) (i m : Nat) : Bool := !F.sl i || anyTo (F.own i) m
def Fac.base (F : Fac) (i : Nat) : Bool := F.baseTo i (F.ct i)
theorem Fac.base0 (F : Fac) (i : Nat) : F.baseTo i 0 = !F.sl i := by simp [baseTo, anyTo]
theorem Fac.baseS (F : Fac) (i m : Nat) : F.baseTo i (m + 1) = (F.baseTo i m || F.own i m) := by simp [baseTo, anyTo, Bool.or_assoc]
/-- What reaches out. -/
inductive Fac.Reach (F : Fac) : Nat → Prop
  | self (i : Nat) : i < F.n → F.base i = true → Fac.Reach F i
  | part (i j a : Nat) : i < F.n → j < F.ct i → F.tg i j = some a → Fac.Reach F a → Fac.Reach F i
def updL (U : Nat → List Nat) (a : Nat) (l : List Nat) : Nat → List Nat := fun k => if k = a then l else U k
theorem updL_same (U : Nat → List Nat) (a : Nat) (l : List Nat) : updL U a l a = l := by simp [updL]
theorem updL_other (U : Nat → List Nat) (a k : Nat) (l : List Nat) (h : k ≠ a) : updL U a l k = U k := by simp [updL, h]
/-- Who has whom: behind all parts of those ahead of m, and the first q of m's. -/
structure UsOk (F : Fac) (m q : Nat) (U : Nat → List Nat) : Prop where
  mem : ∀ a x, x ∈ U a ↔ ∃ j, F.tg x j = some a ∧ ((x < m ∧ j < F.ct x) ∨ (x = m ∧ j < q))
  len : ∀ a, (U a).length ≤ m * 64 + q
theorem UsOk.start (F : Fac) : UsOk F 0 0 (fun _ => []) := ⟨fun a x => by simp, fun a => by simp⟩
theorem UsOk.some {F : Fac} {m q a : Nat} {U : Nat → List Nat} (h : UsOk F m q U) (ht : F.tg m q = some a) : UsOk F m (q + 1) (updL U a (U a ++ [m])) := by
  refine ⟨fun b x => ?_, fun b => ?_⟩
  · by_cases e : b = a
    · subst e
      rw [updL_same, List.mem_append, h.mem b x, List.mem_singleton]
      constructor
      · rintro (⟨j, h1, h2⟩ | rfl)
        · exact ⟨j, h1, h2.imp id fun h => ⟨h.1, by omega⟩⟩
        · exact ⟨q, ht, .inr ⟨rfl, by omega⟩⟩
      · rintro ⟨j, h1, h2 | ⟨rfl, h2⟩⟩
        · exact .inl ⟨j, h1, .inl h2⟩
        · by_cases e : j = q
          · exact .inr rfl
          · exact .inl ⟨j, h1, .inr ⟨rfl, by omega⟩⟩
    · rw [updL_other _ _ _ _ e, h.mem b x]
      constructor
      · rintro ⟨j, h1, h2⟩
        exact ⟨j, h1, h2.imp id fun h => ⟨h.1, by omega⟩⟩
      · rintro ⟨j, h1, h2 | ⟨rfl, h2⟩⟩
        · exact ⟨j, h1, .inl h2⟩
        · by_cases e' : j = q
          · subst e'
            rw [ht] at h1
            exact absurd (Option.some.inj h1).symm e
          · exact ⟨j, h1, .inr ⟨rfl, by omega⟩⟩
  · have := h.len b
    by_cases e : b = a
    · subst e
      rw [updL_same, List.length_append, List.length_singleton]
      omega
    · rw [updL_other _ _ _ _ e]
      omega
theorem UsOk.none {F : Fac} {m q : Nat} {U : Nat → List Nat} (h : UsOk F m q U) (ht : F.tg m q = none) : UsOk F m (q + 1) U := by
  refine ⟨fun b x => ?_, fun b => by have := h.len b; omega⟩
  rw [h.mem b x]
  constructor
  · rintro ⟨j, h1, h2⟩
    exact ⟨j, h1, h2.imp id fun h => ⟨h.1, by omega⟩⟩
  · rintro ⟨j, h1, h2 | ⟨rfl, h2⟩⟩
    · exact ⟨j, h1, .inl h2⟩
    · by_cases e' : j = q
      · subst e'
        rw [ht] at h1
        cases h1
      · exact ⟨j, h1, .inr ⟨rfl, by omega⟩⟩
theorem UsOk.row {F : Fac} {m q : Nat} {U : Nat → List Nat} (h : UsOk F m q U) (hq : q = F.ct m) (h64 : F.ct m ≤ 64) : UsOk F (m + 1) 0 U := by
  subst hq
  refine ⟨fun b x => ?_, fun b => by have := h.len b; omega⟩
  rw [h.mem b x]
  constructor
  · rintro ⟨j, h1, h2 | ⟨rfl, h2⟩⟩
    · exact ⟨j, h1, .inl ⟨by omega, h2.2⟩⟩
    · exact ⟨j, h1, .inl ⟨by omega, h2⟩⟩
  · rintro ⟨j, h1, h2 | ⟨rfl, h2⟩⟩
    · by_cases e : x = m
      · subst e
        exact ⟨j, h1, .inr ⟨rfl, h2.2⟩⟩
      · exact ⟨j, h1, .inl ⟨by omega, h2.2⟩⟩
    · omega
def updB (R : Nat → Bool) (a : Nat) (b : Bool) : Nat → Bool := fun k => if k = a then b else R k
theorem updB_same (R : Nat → Bool) (a : Nat) (b : Bool) : updB R a b a = b := by simp [updB]
theorem updB_other (R : Nat → Bool) (a k : Nat) (b : Bool) (h : k ≠ a) : updB R a b k = R k := by simp [updB, h]
/-- The list of what is to be looked at, and what was told to reach out: i is being looked at, its first q users are done. -/
structure WkOk (F : Fac) (U : Nat → List Nat) (R : Nat → Bool) (l : List Nat) : Prop where
  sound : ∀ x, x < F.n → R x = true → F.Reach x
  base : ∀ x, x < F.n → F.base x = true → R x = true
  clos : ∀ x, x < F.n → R x = true → x ∈ l ∨ ∀ u, u ∈ U x → R u = true
  inn : ∀ x, x ∈ l → x < F.n ∧ R x = true
structure WqOk (F : Fac) (U : Nat → List Nat) (R : Nat → Bool) (l : List Nat) (i q : Nat) : Prop where
  sound : ∀ x, x < F.n → R x = true → F.Reach x
  base : ∀ x, x < F.n → F.base x = true → R x = true
  clos : ∀ x, x < F.n → R x = true → x = i ∨ x ∈ l ∨ ∀ u, u ∈ U x → R u = true
  inn : ∀ x, x ∈ l → x < F.n ∧ R x = true
  at_ : i < F.n ∧ R i = true
  done : ∀ u, u ∈ (U i).take q → R u = true
section
variable {F : Fac} {U : Nat → List Nat} {R : Nat → Bool} {l : List Nat} {i q : Nat}
theorem WkOk.pop (h : WkOk F U R (l ++ [i])) : WqOk F U R l i 0 :=
  ⟨h.sound, h.base, fun x hx hr => by
    rcases h.clos x hx hr with h1 | h1
    · rcases List.mem_append.1 h1 with h2 | h2
      · exact .inr (.inl h2)
      · exact .inl (List.mem_singleton.1 h2)
    · exact .inr (.inr h1), fun x hx => h.inn x (List.mem_append.2 (.inl hx)), h.inn i (List.mem_append.2 (.inr (List.mem_singleton.2 rfl))), fun u hu => by simp at hu⟩
theorem WqOk.end (h : WqOk F U R l i q) (hq : q = (U i).length) : WkOk F U R l :=
  ⟨h.sound, h.base, fun x hx hr => by
    rcases h.clos x hx hr with rfl | h1 | h1
    · right
      intro u hu
      refine h.done u ?_
      rw [hq, List.take_length]
      exact hu
    · exact .inl h1
    · exact .inr h1, h.inn⟩
theorem mem_take_succ {l : List Nat} {q u x : Nat} (hx : l[q]? = some x) (hu : u ∈ l.take (q + 1)) : u ∈ l.take q ∨ u = x := by
  rw [List.take_add_one, hx] at hu
  rcases List.mem_append.1 hu with h | h
  · exact .inl h
  · exact .inr (by simpa using h)
theorem WqOk.old (h : WqOk F U R l i q) {x : Nat} (hx : (U i)[q]? = some x) (hr : R x = true) : WqOk F U R l i (q + 1) :=
  ⟨h.sound, h.base, h.clos, h.inn, h.at_, fun u hu => by
    rcases mem_take_succ hx hu with h1 | rfl
    · exact h.done u h1
    · exact hr⟩
theorem WqOk.new (h : WqOk F U R l i q) {x : Nat} (hx : (U i)[q]? = some x) (hxn : x < F.n) (hR : F.Reach x) : WqOk F U (updB R x true) (l ++ [x]) i (q + 1) := by
  have up : ∀ y, R y = true → updB R x true y = true := fun y hy => by
    unfold updB
    split
    · rfl
    · exact hy
  refine ⟨fun y hy hr => ?_, fun y hy hb => up y (h.base y hy hb), fun y hy hr => ?_, fun y hy => ?_, ⟨h.at_.1, up i h.at_.2⟩, fun u hu => ?_⟩
  · by_cases e : y = x
    · rw [e]; exact hR
    · rw [updB_other _ _ _ _ e] at hr
      exact h.sound y hy hr
  · by_cases e : y = x
    · exact .inr (.inl (List.mem_append.2 (.inr (by simp [e]))))
    · rw [updB_other _ _ _ _ e] at hr
      rcases h.clos y hy hr with h1 | h1 | h1
      · exact .inl h1
      · exact .inr (.inl (List.mem_append.2 (.inl h1)))
      · exact .inr (.inr fun u hu => up u (h1 u hu))
  · rcases List.mem_append.1 hy with h1 | h1
    · exact ⟨(h.inn y h1).1, up y (h.inn y h1).2⟩
    · rw [List.mem_singleton] at h1
      subst h1
      exact ⟨hxn, updB_same _ _ _⟩
  · rcases mem_take_succ hx hu with h1 | rfl
    · exact up u (h.done u h1)
    · exact updB_same _ _ _
/-- A user of what reaches out reaches out. -/
theorem WqOk.user (h : WqOk F U R l i q) (hU : UsOk F F.n 0 U) {x : Nat} (hx : (U i)[q]? = some x) : x < F.n ∧ F.Reach x := by
  have hm : x ∈ U i := List.mem_of_getElem? hx
  obtain ⟨j, h1, h2 | h2⟩ := (hU.mem i x).1 hm
  · exact ⟨h2.1, .part x j i h2.1 h2.2 h1 (h.sound i h.at_.1 h.at_.2)⟩
  · omega
/-- Nothing is left to be looked at: all is told. -/
theorem WkOk.all (h : WkOk F U R []) (hU : UsOk F F.n 0 U) (hT : ∀ i j a, F.tg i j = some a → a < F.n) : ∀ x, x < F.n → (R x = true ↔ F.Reach x) := by
  have key : ∀ x, F.Reach x → x < F.n → R x = true := by
    intro x hx
    induction hx with
    | self i hi hb => intro _; exact h.base i hi hb
    | part i j a hi hj ht hr ih =>
      intro _
      have ha := hT i j a ht
      rcases h.clos a ha (ih ha) with h1 | h1
      · cases h1
      · exact h1 i ((hU.mem a i).2 ⟨j, ht, .inl ⟨hi, hj⟩⟩)
  exact fun x hx => ⟨h.sound x hx, fun hr => key x hr hx⟩
end
/-- The list, ahead of the first look: those that reach out by themselves. -/
structure BkOk (F : Fac) (m : Nat) (R : Nat → Bool) (l : List Nat) : Prop where
  is : ∀ x, x < m → R x = F.base x
  mem : ∀ x, x ∈ l ↔ x < m ∧ F.base x = true
  len : l.length ≤ m
theorem BkOk.start (F : Fac) (R : Nat → Bool) : BkOk F 0 R [] := ⟨fun x hx => by omega, fun x => by simp, Nat.le_refl _⟩
theorem BkOk.yes {F : Fac} {m : Nat} {R R' : Nat → Bool} {l : List Nat} (h : BkOk F m R l) (hb : F.base m = true) (hR : ∀ x, x < m → R' x = R x) (hm : R' m = true) : BkOk F (m + 1) R' (l ++ [m]) := by
  refine ⟨fun x hx => ?_, fun x => ?_, by have := h.len; simp; omega⟩
  · by_cases e : x = m
    · rw [e, hm, hb]
    · rw [hR x (by omega), h.is x (by omega)]
  · rw [List.mem_append, h.mem, List.mem_singleton]
    constructor
    · rintro (h1 | rfl)
      · exact ⟨by omega, h1.2⟩
      · exact ⟨by omega, hb⟩
    · rintro ⟨h1, h2⟩
      by_cases e : x = m
      · exact .inr e
      · exact .inl ⟨by omega, h2⟩
theorem BkOk.no {F : Fac} {m : Nat} {R R' : Nat → Bool} {l : List Nat} (h : BkOk F m R l) (hb : F.base m = false) (hR : ∀ x, x < m → R' x = R x) (hm : R' m = false) : BkOk F (m + 1) R' l := by
  refine ⟨fun x hx => ?_, fun x => ?_, by have := h.len; omega⟩
  · by_cases e : x = m
    · rw [e, hm, hb]
    · rw [hR x (by omega), h.is x (by omega)]
  · rw [h.mem]
    constructor
    · rintro ⟨h1, h2⟩
      exact ⟨by omega, h2⟩
    · rintro ⟨h1, h2⟩
      by_cases e : x = m
      · rw [e, hb] at h2; cases h2
      · exact ⟨by omega, h2⟩
theorem BkOk.work {F : Fac} {U : Nat → List Nat} {R : Nat → Bool} {l : List Nat} (h : BkOk F F.n R l) : WkOk F U R l :=
  ⟨fun x hx hr => .self x hx (by rw [← h.is x hx]; exact hr), fun x hx hb => by rw [h.is x hx]; exact hb, fun x hx hr => .inl ((h.mem x).2 ⟨hx, by rw [← h.is x hx]; exact hr⟩), fun x hx => ⟨((h.mem x).1 hx).1, by rw [h.is x ((h.mem x).1 hx).1]; exact ((h.mem x).1 hx).2⟩⟩
/-- How many were not told to reach out. -/
def fls (R : Nat → Bool) : Nat → Nat
  | 0 => 0
  | n + 1 => fls R n + (if R n then 0 else 1)
theorem fls_le (R : Nat → Bool) : ∀ n, fls R n ≤ n
  | 0 => Nat.le_refl _
  | n + 1 => by have := fls_le R n; unfold fls; split <;> omega
theorem fls_congr {R R' : Nat → Bool} : ∀ n, (∀ x, x < n → R x = R' x) → fls R n = fls R' n
  | 0, _ => rfl
  | n + 1, h => by unfold fls; rw [fls_congr n (fun x hx => h x (by omega)), h n (by omega)]
theorem fls_set {R : Nat → Bool} {a : Nat} (ha : R a = false) : ∀ n, a < n → fls (updB R a true) n + 1 = fls R n
  | 0, h => by omega
  | n + 1, h => by
    unfold fls
    by_cases e : a = n
    · subst e
      rw [fls_congr (R := updB R a true) (R' := R) a (fun x hx => updB_other _ _ _ _ (by omega)), updB_same, ha]
      simp
    · have := fls_set ha n (by omega)
      rw [updB_other _ _ _ _ (by omega)]
      omega
end Go.Proofs.YtahhnfhnlffmpaaDoor
namespace Go.Proofs.YtahhnfhnlffmpaaDoor
open Go.ChangeShapes Go.WideShapes Go.ChangeAt Go.RowKit Go.Maps
set_option linter.unusedVariables false
def wfH (x : Int) : Prop := (Lit.int .i64 x).wf = true
theorem wfH.mk {a : Int} (h1 : -9223372036854775808 ≤ a) (h2 : a ≤ 9223372036854775807) : wfH a := WalkArith.wf_i64 ⟨h1, h2⟩
/-- Factories as they came in. -/
structure FD where
  n : Nat
  id : Nat → Int
  ver : Nat → Int
  sl : Nat → Bool
  pa : Nat → Option Addr
  ct : Nat → Nat
  cp : Nat → Nat
  key : Nat → Nat → Nat → Int
def InF (w : World) (e : Addr) (y0 y1 y2 y3 y4 : Int) : Prop := w.cell? e = some (.int .i64 y0) ∧ w.cell? ⟨e.block, e.off + 1, none⟩ = some (.int .i64 y1) ∧ w.cell? ⟨e.block, e.off + 2, none⟩ = some (.int .i64 y2) ∧ w.cell? ⟨e.block, e.off + 3, none⟩ = some (.int .i64 y3) ∧ w.cell? ⟨e.block, e.off + 4, none⟩ = some (.int .u32 y4)
def InR (w : World) (e : Addr) (x y : Int) (b : Bool) (v : Value) : Prop := w.cell? e = some (.int .i64 x) ∧ w.cell? ⟨e.block, e.off + 1, none⟩ = some (.int .i64 y) ∧ w.cell? ⟨e.block, e.off + 2, none⟩ = some (.bool b) ∧ w.cell? ⟨e.block, e.off + 3, none⟩ = some v
theorem InF.below {w w' : World} {e : Addr} {y0 y1 y2 y3 y4 : Int} (h : InF w e y0 y1 y2 y3 y4) (hb : Below w.heap.size w w') (hl : e.block < w.heap.size) : InF w' e y0 y1 y2 y3 y4 :=
  ⟨(hb.cell (p := e) hl).trans h.1, (hb.cell (p := ⟨e.block, e.off + 1, none⟩) hl).trans h.2.1, (hb.cell (p := ⟨e.block, e.off + 2, none⟩) hl).trans h.2.2.1, (hb.cell (p := ⟨e.block, e.off + 3, none⟩) hl).trans h.2.2.2.1, (hb.cell (p := ⟨e.block, e.off + 4, none⟩) hl).trans h.2.2.2.2⟩
theorem InR.below {w w' : World} {e : Addr} {x y : Int} {b : Bool} {v : Value} (h : InR w e x y b v) (hb : Below w.heap.size w w') (hl : e.block < w.heap.size) : InR w' e x y b v :=
  ⟨(hb.cell (p := e) hl).trans h.1, (hb.cell (p := ⟨e.block, e.off + 1, none⟩) hl).trans h.2.1, (hb.cell (p := ⟨e.block, e.off + 2, none⟩) hl).trans h.2.2.1, (hb.cell (p := ⟨e.block, e.off + 3, none⟩) hl).trans h.2.2.2⟩
/-- A row of keys. -/
def KysAt (w : World) (a : Option Addr) (n : Nat) (key : Nat → Nat → Int) : Prop := ∀ j, j < n → ∃ pd, a = some pd ∧ (pd.add (j * 5)).block < w.heap.size ∧ InF w (pd.add (j * 5)) (key j 0) (key j 1) (key j 2) (key j 3) (key j 4) ∧ wfH (key j 1) ∧ wfH (key j 2)
theorem KysAt.below {w w' : World} {a : Option Addr} {n : Nat} {key : Nat → Nat → Int} (h : KysAt w a n key) (hb : Below w.heap.size w w') : KysAt w' a n key := fun j hj => by
  obtain ⟨pd, h1, h2, h3, h4⟩ := h j hj
  exact ⟨pd, h1, Nat.lt_of_lt_of_le h2 hb.size, h3.below hb h2, h4⟩
structure FacAt (w : World) (a : Option Addr) (D : FD) : Prop where
  row : ∀ i, i < D.n → ∃ ad, a = some ad ∧ (ad.add (i * 4)).block < w.heap.size ∧ InR w (ad.add (i * 4)) (D.id i) (D.ver i) (D.sl i) (.slice (D.pa i) (D.ct i) (D.cp i)) ∧ wfH (D.id i) ∧ wfH (D.ver i)
  part : ∀ i, i < D.n → KysAt w (D.pa i) (D.ct i) (D.key i)
  few : D.n ≤ 256
  few2 : ∀ i, D.ct i ≤ 64
theorem FacAt.below {w w' : World} {a : Option Addr} {D : FD} (h : FacAt w a D) (hb : Below w.heap.size w w') : FacAt w' a D :=
  ⟨fun i hi => by
    obtain ⟨ad, h1, h2, h3, h4⟩ := h.row i hi
    exact ⟨ad, h1, Nat.lt_of_lt_of_le h2 hb.size, h3.below hb h2, h4⟩, fun i hi => (h.part i hi).below hb, h.few, h.few2⟩
/-- The place of the first of the first m that is named so. -/
def FD.fidx (D : FD) (a b : Int) : Nat → Option Nat
  | 0 => none
  | m + 1 => match D.fidx a b m with | some i => some i | none => if D.id m = a ∧ D.ver m = b then some m else none
theorem FD.fidx_lt (D : FD) (a b : Int) : ∀ m i, D.fidx a b m = some i → i < m
  | 0, i, h => by cases h
  | m + 1, i, h => by
    unfold fidx at h
    cases hq : D.fidx a b m with
    | some j => rw [hq] at h; simp at h; have := D.fidx_lt a b m j hq; omega
    | none => rw [hq] at h; simp at h; omega
def FD.tgt (D : FD) (k0 k1 k2 : Int) : Option Nat := if k0 = 9 then D.fidx k1 k2 D.n else none
theorem FD.tgt_lt {D : FD} {k0 k1 k2 : Int} {i : Nat} (h : D.tgt k0 k1 k2 = some i) : i < D.n := by
  unfold tgt at h
  split at h
  · exact D.fidx_lt _ _ _ _ h
  · cases h
def FD.fac (D : FD) (sn : Nat → Nat → Bool) : Fac := ⟨D.n, D.sl, D.ct, fun i j => D.tgt (D.key i j 0) (D.key i j 1) (D.key i j 2), sn⟩
/-- Each part is sensory or not. -/
def SnOk (D : FD) (sn : Nat → Nat → Bool) : Prop := ∀ i j, i < D.n → j < D.ct i → Sens (D.key i j 0) (D.key i j 1) (D.key i j 2) (D.key i j 3) (D.key i j 4) (sn i j)
theorem hlaidOut : laidOutB Tryd.prog = true := by kernel_rfl
theorem lawN : Keyed Tryd.prog 177 := Keyed.of_law (deep_law_laid hlaidOut (m := 2) (by decide) (of_decide_eq_true (by kernel_rfl)) (by kernel_rfl) (by kernel_rfl))
def kN (a b : Int) : Lit := .string (keyBytes [.int .i64 a, .int .i64 b])
theorem kN_key (a b : Int) : WideAt.IsKeyLit (kN a b) := by trivial
theorem zeroI (w : World) : (zeroValue 3).run Tryd.prog w = .ok (.int .i64 0) w := by kernel_rfl
theorem kN_is {a b : Int} (ha : wfH a) (hb : wfH b) : keyOf Tryd.prog 177 (.agg #[.int .i64 a, .int .i64 b]) = some (kN a b) := by
  have hkt : Tryd.prog.keyType 177 = true := by kernel_rfl
  have hc : Tryd.prog.cellsOf 177 = 2 := by kernel_rfl
  have hi : Tryd.prog.cellsOf 3 = 1 := by kernel_rfl
  obtain ⟨m, hm⟩ : ∃ m, Tryd.prog.types.size = m + 2 := ⟨Tryd.prog.types.size - 2, by have : 2 ≤ Tryd.prog.types.size := of_decide_eq_true (by kernel_rfl); omega⟩
  have hl : ∀ d, Tryd.prog.keyLits (d + 2) 177 [.int .i64 a, .int .i64 b] = some [.int .i64 a, .int .i64 b] := by
    intro d
    unfold wfH at ha hb
    have h1 : ∀ x, (Lit.int .i64 x).wf = true → Tryd.prog.keyLits (d + 1) 3 [.int .i64 x] = some [.int .i64 x] := by
      intro x hx
      simp [Program.keyLits, Tryd.underlying3, hx]
    unfold Program.keyLits
    simp only [Tryd.underlying177]
    rw [if_pos (by rw [hc]; exact ⟨rfl, by simp⟩)]
    simp [hi, h1 a ha, h1 b hb]
  unfold keyOf
  simp only [Tryd.underlying177]
  rw [if_pos (by simp [hkt, Value.formed, Tryd.underlying177, hc]), hm]
  show (Tryd.prog.keyLits (m + 1 + 2) 177 [.int .i64 a, .int .i64 b]).map _ = _
  rw [hl]
  rfl
theorem kN_inj {a b c d : Int} (ha : wfH a) (hb : wfH b) (hc : wfH c) (hd : wfH d) (h : kN a b = kN c d) : a = c ∧ b = d := by
  have h1 := kN_is ha hb
  have h2 := kN_is hc hd
  rw [← h] at h2
  have := lawN.inj h1 h2
  simpa using this
/-- What the map tells behind m factories. -/
structure MapIs (D : FD) (m : Nat) (M : DataW Unit) : Prop where
  has : ∀ a b, wfH a → wfH b → Maps.has M (kN a b) = (D.fidx a b m).isSome
  at_ : ∀ a b i, wfH a → wfH b → D.fidx a b m = some i → M.atKey (kN a b) (.lit (.int .i64 0)) = .lit (.int .i64 (i : Int))
theorem MapIs.start (D : FD) : MapIs D 0 (.map []) := ⟨fun a b _ _ => by simp [Maps.has, FD.fidx], fun a b i _ _ h => by cases h⟩
theorem MapIs.skip {D : FD} {m : Nat} {M : DataW Unit} (h : MapIs D m M) {i : Nat} (hi : D.fidx (D.id m) (D.ver m) m = some i) : MapIs D (m + 1) M := by
  have e : ∀ a b, D.fidx a b (m + 1) = D.fidx a b m := by
    intro a b
    show (match D.fidx a b m with | some i => some i | none => if D.id m = a ∧ D.ver m = b then some m else none) = _
    cases hq : D.fidx a b m with
    | some j => rfl
    | none =>
      simp only
      split
      · rename_i h2
        obtain ⟨rfl, rfl⟩ := h2
        rw [hi] at hq
        cases hq
      · rfl
  exact ⟨fun a b ha hb => by rw [e]; exact h.has a b ha hb, fun a b i ha hb hf => by rw [e] at hf; exact h.at_ a b i ha hb hf⟩
theorem MapIs.put {D : FD} {m : Nat} {M : DataW Unit} (h : MapIs D m M) (hM : IsMap M) (hi : D.fidx (D.id m) (D.ver m) m = none) (w1 : wfH (D.id m)) (w2 : wfH (D.ver m)) : MapIs D (m + 1) (M.put (kN (D.id m) (D.ver m)) (.lit (.int .i64 (m : Int)))) := by
  have e : ∀ a b, D.fidx a b (m + 1) = (match D.fidx a b m with | some i => some i | none => if D.id m = a ∧ D.ver m = b then some m else none) := fun a b => rfl
  have key : ∀ a b, wfH a → wfH b → (a = D.id m ∧ b = D.ver m) ∨ (kN a b ≠ kN (D.id m) (D.ver m) ∧ ¬ (D.id m = a ∧ D.ver m = b)) := by
    intro a b ha hb
    by_cases he : a = D.id m ∧ b = D.ver m
    · exact .inl he
    · exact .inr ⟨fun hk => he (kN_inj ha hb w1 w2 hk), fun h2 => he ⟨h2.1.symm, h2.2.symm⟩⟩
  refine ⟨fun a b ha hb => ?_, fun a b i ha hb hf => ?_⟩
  · rcases key a b ha hb with ⟨rfl, rfl⟩ | ⟨h1, h2⟩
    · rw [has_put_same hM (kN_key _ _), e, hi]
      simp
    · rw [has_put_other h1, h.has a b ha hb, e]
      cases hq : D.fidx a b m with
      | some j => rfl
      | none => simp [h2]
  · rcases key a b ha hb with ⟨rfl, rfl⟩ | ⟨h1, h2⟩
    · rw [e, hi] at hf
      simp at hf
      rw [atKey_put_same hM (kN_key _ _), ← hf]
    · rw [atKey_put_other h1]
      rw [e] at hf
      cases hq : D.fidx a b m with
      | some j =>
        rw [hq] at hf
        simp at hf
        rw [← hf]
        exact h.at_ a b j ha hb hq
      | none =>
        rw [hq] at hf
        simp [h2] at hf
def bools (R : Nat → Bool) (n : Nat) : List Value := (List.range n).map fun i => .bool (R i)
theorem bools_len (R : Nat → Bool) (n : Nat) : (bools R n).length = n := by simp [bools]
theorem bools_at (R : Nat → Bool) (n i : Nat) (hi : i < n) : (bools R n)[i]? = some (.bool (R i)) := by
  unfold bools
  rw [List.getElem?_map, List.getElem?_range hi]
  rfl
theorem bools_set (R : Nat → Bool) (n i : Nat) (hi : i < n) (b : Bool) : (bools R n).set i (.bool b) = bools (updB R i b) n := by
  apply List.ext_getElem?
  intro j
  by_cases hj : j < n
  · rw [bools_at _ _ _ hj, List.getElem?_set]
    by_cases e : i = j
    · subst e
      rw [if_pos rfl, if_pos (by rw [bools_len]; exact hi), updB_same]
    · rw [if_neg e, bools_at _ _ _ hj, updB_other _ _ _ _ (Ne.symm e)]
  · rw [List.getElem?_eq_none (by rw [List.length_set, bools_len]; omega), List.getElem?_eq_none (by rw [bools_len]; omega)]
/-- The row of what was told. -/
def OutAt (w : World) (bo n : Nat) (R : Nat → Bool) : Prop := w.ownsRow 0 4 1 (.slice (some ⟨bo, 0, none⟩) n n) n (bools R n)
theorem OutAt.lt {w : World} {bo n : Nat} {R : Nat → Bool} (h : OutAt w bo n R) : bo < w.heap.size := (World.ownsRow.lt h bo rfl).2
theorem OutAt.at_ {w : World} {bo n : Nat} {R : Nat → Bool} (h : OutAt w bo n R) (i : Nat) (hi : i < n) : w.cell? ⟨bo, i, none⟩ = some (.bool (R i)) ∧ w.frozen? ⟨bo, i, none⟩ = false := by
  refine ⟨?_, World.ownsRow.frozenAt h i⟩
  rw [World.ownsRow.cellAt h i (by omega), bools_at _ _ _ hi]
theorem OutAt.set {w : World} {bo n : Nat} {R : Nat → Bool} (h : OutAt w bo n R) (i : Nat) (hi : i < n) (b : Bool) : OutAt (w.setCell ⟨bo, i, none⟩ (.bool b)) bo n (updB R i b) ∧ w.grownBy (w.setCell ⟨bo, i, none⟩ (.bool b)) (some bo) := by
  have hs := World.ownsRow.stored h i (.bool b)
  rw [bools_set R n i hi b] at hs
  exact hs
theorem OutAt.kept {w w' : World} {bo n g : Nat} {R : Nat → Bool} (h : OutAt w bo n R) (hg : w.grownBy w' (some g)) (hne : bo ≠ g) : OutAt w' bo n R := World.ownsRow.kept h hg (.inr (by simp [Value.ownBlock]; exact hne))
theorem rowkeep {w w' : World} {B E s n : Nat} {v : Value} {xs : List Value} (h : w.ownsRow B E s v n xs) (hb : ∀ g, v.ownBlock = some g → w'.heap[g]? = w.heap[g]?) : w'.ownsRow B E s v n xs := by
  refine ⟨h.1, ?_⟩
  rcases h.2 with hn | ⟨g, cap, cur, rfl, hB, hg, rest⟩
  · exact .inl hn
  · exact .inr ⟨g, cap, cur, rfl, hB, (hb g rfl).trans hg, rest⟩
theorem rowbelow {w w' : World} {B E s n : Nat} {v : Value} {xs : List Value} (h : w.ownsRow B E s v n xs) (hb : Below w.heap.size w w') : w'.ownsRow B E s v n xs := rowkeep h fun g hg => hb.block g (h.lt g hg).2
theorem mapbelow {w w' : World} {b n : Nat} {M : DataW Unit} (h : w.ownsMap Tryd.prog 177 (plainElem (H := Unit) Tryd.prog 3) b n M) (hb : Below w.heap.size w w') : w'.ownsMap Tryd.prog 177 (plainElem (H := Unit) Tryd.prog 3) b n M := by
  have hl := h.lt
  obtain ⟨es, cl, hm, r⟩ := h
  exact ⟨es, cl, (hb.block b hl).trans hm, r⟩
/-- A survey as it is handed out. -/
structure SvAt (w : World) (D : FD) (bm bo m : Nat) (M : DataW Unit) (R : Nat → Bool) : Prop where
  mp : w.ownsMap Tryd.prog 177 (plainElem (H := Unit) Tryd.prog 3) bm m M
  mi : MapIs D D.n M
  ou : OutAt w bo D.n R
theorem SvAt.below {w w' : World} {D : FD} {bm bo m : Nat} {M : DataW Unit} {R : Nat → Bool} (h : SvAt w D bm bo m M R) (hb : Below w.heap.size w w') : SvAt w' D bm bo m M R := ⟨mapbelow h.mp hb, h.mi, rowbelow h.ou hb⟩
set_option maxRecDepth 100000 in
theorem hfactory_some (k0 k1 k2 k3 k4 : Int) (D : FD) (i bm bo cn cn2 m : Nat) (M : DataW Unit) (ht : Hid (D.tgt k0 k1 k2 = some i)) (h1 : wfH k1) (h2 : wfH k2) (w : World) (hM : w.ownsMap Tryd.prog 177 (plainElem (H := Unit) Tryd.prog 3) bm m M) (hI : MapIs D D.n M) :
    Calls Tryd.prog 99 #[(Value.agg #[.map (some bm), .slice (some ⟨bo, 0, none⟩) cn cn2]), (Value.agg #[.int .i64 k0, .int .i64 k1, .int .i64 k2, .int .i64 k3, .int .u32 k4])] w fun e w' => e = .returned (.tuple #[.int .i64 (i : Int), .bool true]) ∧ Below w.heap.size w w' := by
  have h9 : k0 = 9 := by
    have := ht.out
    unfold FD.tgt at this
    split at this
    · assumption
    · cases this
  subst h9
  have hf : D.fidx k1 k2 D.n = some i := by have := ht.out; simpa [FD.tgt] using this
  have HK := Lib.hid (kN_is h1 h2)
  have hh : Maps.has M (kN k1 k2) = true := by rw [hI.has k1 k2 h1 h2, hf]; rfl
  have HA := Lib.hid (hI.at_ k1 k2 i h1 h2 hf)
  have HM := Lib.hid hM
  clear hM hI h1 h2 hf ht
  go_enter Tryd.func99, Tryd.ntmps99
  go_wp2_with (first
    | (at_lookup; refine wpList_lookup_own_ok_int _ rfl _ _ 164 rfl 177 3 .i64 lawN Tryd.underlying164 Tryd.underlying3 (zeroI _) bm m M rfl ((HM.out.alloc _).alloc _) _ _ rfl HK.out ?_; intro c hat hwc; obtain rfl : c = (i : Int) := (by have e := hat.symm.trans HA.out; simpa using e); clear hat))
  go_ret2
  exact ⟨rfl, ((Below.refl _ _).alloc (Nat.le_refl _) _).alloc (by simp) _⟩
set_option maxRecDepth 100000 in
theorem hfactory_none (k0 k1 k2 k3 k4 : Int) (D : FD) (bm bo cn cn2 m : Nat) (M : DataW Unit) (ht : Hid (D.tgt k0 k1 k2 = none)) (h1 : wfH k1) (h2 : wfH k2) (w : World) (hM : w.ownsMap Tryd.prog 177 (plainElem (H := Unit) Tryd.prog 3) bm m M) (hI : MapIs D D.n M) :
    Calls Tryd.prog 99 #[(Value.agg #[.map (some bm), .slice (some ⟨bo, 0, none⟩) cn cn2]), (Value.agg #[.int .i64 k0, .int .i64 k1, .int .i64 k2, .int .i64 k3, .int .u32 k4])] w fun e w' => e = .returned (.tuple #[.int .i64 0, .bool false]) ∧ Below w.heap.size w w' := by
  by_cases h9 : k0 = 9
  · subst h9
    have hf : D.fidx k1 k2 D.n = none := by have := ht.out; simpa [FD.tgt] using this
    have HK := Lib.hid (kN_is h1 h2)
    have hh : Maps.has M (kN k1 k2) = false := by rw [hI.has k1 k2 h1 h2, hf]; rfl
    have HA := Lib.hid (Maps.atKey_of_not_has hh (.lit (.int .i64 0)))
    have HM := Lib.hid hM
    clear hM hI h1 h2 hf ht
    go_enter Tryd.func99, Tryd.ntmps99
    go_wp2_with (first
      | (at_lookup; refine wpList_lookup_own_ok_int _ rfl _ _ 164 rfl 177 3 .i64 lawN Tryd.underlying164 Tryd.underlying3 (zeroI _) bm m M rfl ((HM.out.alloc _).alloc _) _ _ rfl HK.out ?_; intro c hat hwc; obtain rfl : c = 0 := (by have e := hat.symm.trans HA.out; simpa using e); clear hat))
    go_ret2
    exact ⟨rfl, ((Below.refl _ _).alloc (Nat.le_refl _) _).alloc (by simp) _⟩
  · have e9 : (k0 == 9) = false := by simpa using h9
    clear hM
    go_enter Tryd.func99, Tryd.ntmps99
    go_wp2
    go_ret2
    exact ⟨rfl, ((Below.refl _ _).alloc (Nat.le_refl _) _).alloc (by simp) _⟩
/-- Is a key a hole? -/
def holeB (D : FD) (R : Nat → Bool) (s : Bool) (k0 k1 k2 : Int) : Bool := match D.tgt k0 k1 k2 with | some i => R i | none => !s
set_option maxRecDepth 100000 in
theorem hishole_any (k0 k1 k2 k3 k4 : Int) (D : FD) (bm bo m : Nat) (M : DataW Unit) (R : Nat → Bool) (s t : Bool) (ht : Hid (holeB D R s k0 k1 k2 = t)) (h1 : wfH k1) (h2 : wfH k2) (hS : Sens k0 k1 k2 k3 k4 s) (w : World) (h : SvAt w D bm bo m M R) :
    Calls Tryd.prog 92 #[.agg #[.map (some bm), .slice (some ⟨bo, 0, none⟩) D.n D.n], (Value.agg #[.int .i64 k0, .int .i64 k1, .int .i64 k2, .int .i64 k3, .int .u32 k4])] w fun e w' => e = .returned (.bool t) ∧ Below w.heap.size w w' := by
  have H : Hid (SvAt ((w.alloc (.cells #[.map (some bm), .slice (some ⟨bo, 0, none⟩) D.n D.n] 166)).alloc (.cells #[.int .i64 k0, .int .i64 k1, .int .i64 k2, .int .i64 k3, .int .u32 k4] 32)) D bm bo m M R) := Lib.hid (h.below (((Below.refl _ _).alloc (Nat.le_refl _) _).alloc (by simp) _))
  have HS := Lib.hid hS
  have HW := Lib.hid (⟨h1, h2⟩ : wfH k1 ∧ wfH k2)
  clear h hS h1 h2
  cases hq : D.tgt k0 k1 k2 with
  | none =>
    have HT : Hid (D.tgt k0 k1 k2 = none) := Lib.hid hq
    have ht2 : t = !s := by rw [← ht.out]; simp [holeB, hq]
    subst ht2
    clear hq ht
    go_enter Tryd.func92, Tryd.ntmps92
    go_wp2_with (first
      | (go_at_call 99; (with_reducible refine (hfactory_none k0 k1 k2 k3 k4 D bm bo D.n D.n m M HT HW.out.1 HW.out.2 _ H.out.mp H.out.mi).mono ?_); rintro e w1 ⟨rfl, hb⟩; obtain ⟨hc, hf⟩ := bcell hb; have HB := Lib.hid (Below.trans (((Below.refl _ _).alloc (Nat.le_refl _) _).alloc (by simp) _) (hb.mono (by simp; omega))); have hz : w.heap.size + 1 < w1.heap.size := by { have := hb.size; simp at this; omega }; clear hb)
      | (go_at_call 100; (with_reducible refine (HS.out.at _).mono ?_); rintro e w2 ⟨rfl, hb2⟩; have HB2 := Lib.hid (HB.out.trans (hb2.mono HB.out.size)); clear hb2))
    go_ret
    exact ⟨rfl, HB2.out⟩
  | some i =>
    have HT : Hid (D.tgt k0 k1 k2 = some i) := Lib.hid hq
    have hi := FD.tgt_lt hq
    have ht2 : t = R i := by rw [← ht.out]; simp [holeB, hq]
    have HR2 := Lib.hid ht2
    have i0 : (0 : Int) ≤ i := by omega
    have i1 : (i : Int) < D.n := by omega
    clear hq ht ht2
    go_enter Tryd.func92, Tryd.ntmps92
    go_wp2_with (first
      | (go_at_call 99; (with_reducible refine (hfactory_some k0 k1 k2 k3 k4 D i bm bo D.n D.n m M HT HW.out.1 HW.out.2 _ H.out.mp H.out.mi).mono ?_); rintro e w1 ⟨rfl, hb⟩; have hcell := ((H.out.below hb).ou.at_ i hi).1; rw [← HR2.out] at hcell; obtain ⟨hc, hf⟩ := bcell hb; have HB := Lib.hid (Below.trans (((Below.refl _ _).alloc (Nat.le_refl _) _).alloc (by simp) _) (hb.mono (by simp; omega))); clear hb))
    go_ret
    exact ⟨rfl, HB.out⟩
end Go.Proofs.YtahhnfhnlffmpaaDoor
namespace Go.Proofs.YtahhnfhnlffmpaaDoor
open Go.ChangeShapes Go.WideShapes Go.ChangeAt Go.RowKit Go.Maps
set_option linter.unusedVariables false
def natInts (l : List Nat) : List Value := l.map fun (x : Nat) => Value.int .i64 (Int.ofNat x)
theorem natInts_len (l : List Nat) : (natInts l).length = l.length := by simp [natInts]
theorem natInts_at (l : List Nat) (i : Nat) (x : Nat) (h : l[i]? = some x) : (natInts l)[i]? = some (.int .i64 (x : Int)) := by unfold natInts; rw [List.getElem?_map, h]; rfl
theorem natInts_snoc (l : List Nat) (x : Nat) : natInts (l ++ [x]) = natInts l ++ [.int .i64 (x : Int)] := by simp [natInts]
theorem natInts_one (l : List Nat) : ∀ u ∈ natInts l, u.oneCell' = true := by
  intro u hu
  unfold natInts at hu
  obtain ⟨x, _, rfl⟩ := List.mem_map.1 hu
  rfl
def updVl (V : Nat → Value) (a : Nat) (v : Value) : Nat → Value := fun k => if k = a then v else V k
def valRow (V : Nat → Value) (n : Nat) : List Value := (List.range n).map V
theorem valRow_len (V : Nat → Value) (n : Nat) : (valRow V n).length = n := by simp [valRow]
theorem valRow_at (V : Nat → Value) (n i : Nat) (hi : i < n) : (valRow V n)[i]? = some (V i) := by unfold valRow; rw [List.getElem?_map, List.getElem?_range hi]; rfl
theorem valRow_set (V : Nat → Value) (n i : Nat) (hi : i < n) (v : Value) : (valRow V n).set i v = valRow (updVl V i v) n := by
  apply List.ext_getElem?
  intro j
  by_cases hj : j < n
  · rw [valRow_at _ _ _ hj, List.getElem?_set]
    by_cases e : i = j
    · subst e
      rw [if_pos rfl, if_pos (by rw [valRow_len]; exact hi)]
      simp [updVl]
    · rw [if_neg e, valRow_at _ _ _ hj]
      simp [updVl, Ne.symm e]
  · rw [List.getElem?_eq_none (by rw [List.length_set, valRow_len]; omega), List.getElem?_eq_none (by rw [valRow_len]; omega)]
/-- The rows: who has whom (at bu; each its own row from lo on), and what is to be looked at. -/
structure LkAt (w : World) (lo bu n : Nat) (vw : Value) (l : List Nat) (V : Nat → Value) (U : Nat → List Nat) : Prop where
  us : w.ownsRow 0 56 1 (.slice (some ⟨bu, 0, none⟩) n n) n (valRow V n)
  row : ∀ k, k < n → w.ownsRow lo 3 1 (V k) (U k).length (natInts (U k))
  wk : w.ownsRow lo 3 1 vw l.length (natInts l)
  dis : ∀ k, k < n → ∀ q, q < n → k ≠ q → ∀ g, (V k).ownBlock = some g → (V q).ownBlock ≠ some g
  dw : ∀ k, k < n → ∀ g, (V k).ownBlock = some g → vw.ownBlock ≠ some g
  lo_ : bu < lo
section
variable {w w' w1 : World} {lo bu n : Nat} {vw : Value} {l : List Nat} {V : Nat → Value} {U : Nat → List Nat}
theorem LkAt.ul (h : LkAt w lo bu n vw l V U) : bu < w.heap.size := (World.ownsRow.lt h.us bu rfl).2
theorem LkAt.below (h : LkAt w lo bu n vw l V U) (hb : Below w.heap.size w w') : LkAt w' lo bu n vw l V U := ⟨rowbelow h.us hb, fun k hk => rowbelow (h.row k hk) hb, rowbelow h.wk hb, h.dis, h.dw, h.lo_⟩
/-- A row far below was written. -/
theorem LkAt.low (h : LkAt w lo bu n vw l V U) {g : Nat} (hg : w.grownBy w' (some g)) (h1 : g < lo) (h2 : g ≠ bu) : LkAt w' lo bu n vw l V U :=
  ⟨h.us.kept hg (.inr (by simp [Value.ownBlock]; exact Ne.symm h2)), fun k hk => (h.row k hk).kept hg (.inr fun e => by have := ((h.row k hk).lt g e).1; omega), h.wk.kept hg (.inr fun e => by have := (h.wk.lt g e).1; omega), h.dis, h.dw, h.lo_⟩
theorem LkAt.at_ (h : LkAt w lo bu n vw l V U) (k : Nat) (hk : k < n) : w.cell? ⟨bu, k, none⟩ = some (V k) ∧ w.frozen? ⟨bu, k, none⟩ = false := by
  refine ⟨?_, World.ownsRow.frozenAt h.us k⟩
  rw [World.ownsRow.cellAt h.us k (by omega), valRow_at _ _ _ hk]
theorem LkAt.shape (h : LkAt w lo bu n vw l V U) (k : Nat) (hk : k < n) : ∃ a c, V k = .slice a (U k).length c ∧ (0 < (U k).length → ∃ g, a = some ⟨g, 0, none⟩) ∧ (U k).length ≤ c := by
  have hr := h.row k hk
  rcases hr.2 with ⟨e, e2⟩ | ⟨g, cap, cur, e, hB, hg, hc, rest⟩
  · exact ⟨none, 0, by rw [e, e2], fun h => by omega, by omega⟩
  · exact ⟨_, cap, e, fun _ => ⟨g, rfl⟩, hc⟩
theorem LkAt.wshape (h : LkAt w lo bu n vw l V U) : ∃ a c, vw = .slice a l.length c ∧ (0 < l.length → ∃ g, a = some ⟨g, 0, none⟩) ∧ l.length ≤ c ∧ c ≤ 9223372036854775807 := by
  rcases h.wk.2 with ⟨e, e2⟩ | ⟨g, cap, cur, e, hB, hg, hc, hm, rest⟩
  · exact ⟨none, 0, by rw [e, e2], fun h => by omega, by omega, by omega⟩
  · exact ⟨_, cap, e, fun _ => ⟨g, rfl⟩, hc, by unfold maxLen at hm; exact hm⟩
theorem LkAt.user (h : LkAt w lo bu n vw l V U) (k : Nat) (hk : k < n) {g c q x : Nat} (e : V k = .slice (some ⟨g, 0, none⟩) (U k).length c) (hx : (U k)[q]? = some x) : w.cell? ⟨g, q, none⟩ = some (.int .i64 (x : Int)) := by
  have hr := h.row k hk
  rw [e] at hr
  have hq : q < (U k).length := (List.getElem?_eq_some_iff.1 hx).1
  rw [hr.cellAt q (by omega), natInts_at _ _ _ hx]
theorem LkAt.todo (h : LkAt w lo bu n vw l V U) {g c q x : Nat} (e : vw = .slice (some ⟨g, 0, none⟩) l.length c) (hx : l[q]? = some x) : w.cell? ⟨g, q, none⟩ = some (.int .i64 (x : Int)) := by
  have hr := h.wk
  rw [e] at hr
  have hq : q < l.length := (List.getElem?_eq_some_iff.1 hx).1
  rw [hr.cellAt q (by omega), natInts_at _ _ _ hx]
/-- One more to be looked at. -/
theorem LkAt.more (h : LkAt w lo bu n vw l V U) {v' : Value} {x : Nat} (ho : w'.ownsRow lo 3 1 v' (l.length + 1) (natInts l ++ [.int .i64 (x : Int)])) (hg : w.grownBy w' vw.ownBlock) (hl : v'.ownBlock = vw.ownBlock ∨ ∃ z, v'.ownBlock = some z ∧ w.heap.size ≤ z) : LkAt w' lo bu n v' (l ++ [x]) V U := by
  have hne : vw.ownBlock ≠ some bu := fun e => by have := (h.wk.lt bu e).1; have := h.lo_; omega
  refine ⟨h.us.kept hg (.inr fun e => hne (by rw [← e]; rfl)), fun k hk => (h.row k hk).kept hg ?_, by rw [List.length_append, List.length_singleton, natInts_snoc]; exact ho, h.dis, fun k hk g hgk => ?_, h.lo_⟩
  · cases hv : (V k).ownBlock with
    | none => exact .inl rfl
    | some g => exact .inr fun e => h.dw k hk g hv e.symm
  · rcases hl with e | ⟨z, e, hz⟩
    · rw [e]; exact h.dw k hk g hgk
    · rw [e]
      intro e2
      injection e2 with e2
      have := ((h.row k hk).lt g hgk).2
      omega
/-- One more user. -/
theorem LkAt.push (h : LkAt w lo bu n vw l V U) (a : Nat) (ha : a < n) {v' : Value} {x : Nat} (ho : w'.ownsRow lo 3 1 v' ((U a).length + 1) (natInts (U a) ++ [.int .i64 (x : Int)])) (hg : w.grownBy w' (V a).ownBlock) (hl : v'.ownBlock = (V a).ownBlock ∨ ∃ z, v'.ownBlock = some z ∧ w.heap.size ≤ z) : LkAt (w'.setCell ⟨bu, a, none⟩ v') lo bu n vw l (updVl V a v') (updL U a (U a ++ [x])) := by
  have hlo := h.lo_
  have hne : (V a).ownBlock ≠ some bu := fun e => by have := ((h.row a ha).lt bu e).1; omega
  have hus := h.us.kept hg (.inr fun e => hne (by rw [← e]; rfl))
  have hs := World.ownsRow.stored hus a v'
  rw [valRow_set V n a ha v'] at hs
  have keep : ∀ {v : Value} {m : Nat} {xs : List Value}, w'.ownsRow lo 3 1 v m xs → (w'.setCell ⟨bu, a, none⟩ v').ownsRow lo 3 1 v m xs := fun {v m xs} hr => hr.kept hs.2 (.inr fun e => by have := (hr.lt bu e).1; omega)
  refine ⟨hs.1, fun k hk => ?_, keep (h.wk.kept hg ?_), fun k hk q hq hkq g hgk => ?_, fun k hk g hgk => ?_, h.lo_⟩
  · by_cases e : k = a
    · subst e
      rw [updL_same, List.length_append, List.length_singleton, natInts_snoc]
      simp only [updVl, if_pos]
      exact keep ho
    · rw [updL_other _ _ _ _ e]
      simp only [updVl, if_neg e]
      refine keep ((h.row k hk).kept hg ?_)
      cases hv : (V k).ownBlock with
      | none => exact .inl rfl
      | some g => exact .inr fun e2 => h.dis k hk a ha e g hv e2.symm
  · cases hv : vw.ownBlock with
    | none => exact .inl rfl
    | some g => exact .inr fun e2 => h.dw a ha g e2.symm hv
  · have old : ∀ i g, i < n → (V i).ownBlock = some g → g < w.heap.size := fun i g hi hgi => ((h.row i hi).lt g hgi).2
    by_cases e1 : k = a
    · subst e1
      simp only [updVl, if_pos] at hgk
      have e2 : q ≠ k := Ne.symm hkq
      simp only [updVl, if_neg e2]
      rcases hl with e | ⟨z, e, hz⟩
      · exact h.dis k hk q hq hkq g (by rw [← e]; exact hgk)
      · intro e3
        rw [e] at hgk
        injection hgk with hgk
        have := old q g hq e3
        omega
    · simp only [updVl, if_neg e1] at hgk
      by_cases e2 : q = a
      · subst e2
        simp only [updVl, if_pos]
        rcases hl with e | ⟨z, e, hz⟩
        · rw [e]; exact h.dis k hk q hq hkq g hgk
        · intro e3
          rw [e] at e3
          injection e3 with e3
          have := old k g hk hgk
          omega
      · simp only [updVl, if_neg e2]
        exact h.dis k hk q hq hkq g hgk
  · by_cases e1 : k = a
    · subst e1
      simp only [updVl, if_pos] at hgk
      rcases hl with e | ⟨z, e, hz⟩
      · exact h.dw k hk g (by rw [← e]; exact hgk)
      · intro e3
        rw [e] at hgk
        injection hgk with hgk
        have := (h.wk.lt g e3).2
        omega
    · simp only [updVl, if_neg e1] at hgk
      exact h.dw k hk g hgk
/-- The last one is taken. -/
theorem LkAt.pop {i g c : Nat} (h : LkAt w lo bu n (.slice (some ⟨g, 0, none⟩) (l ++ [i]).length c) (l ++ [i]) V U) : LkAt w lo bu n (.slice (some ⟨g, 0, none⟩) l.length c) l V U := by
  refine ⟨h.us, h.row, ⟨by rw [natInts_len, Nat.mul_one], .inr ?_⟩, h.dis, h.dw, h.lo_⟩
  rcases h.wk.2 with ⟨e, _⟩ | ⟨g', cap, cur, e, hB, hg, hc, hm, hsz, ht⟩
  · cases e
  · simp only [Value.slice.injEq, Option.some.injEq, Addr.mk.injEq] at e
    obtain ⟨⟨rfl, _⟩, _, rfl⟩ := e
    rw [List.length_append, List.length_singleton] at hc ht
    refine ⟨g, c, cur, rfl, hB, hg, by omega, hm, hsz, ?_⟩
    have h2 := congrArg (List.take l.length) ht
    rw [List.take_take, natInts_snoc, List.take_append_of_le_length (by rw [natInts_len]; omega)] at h2
    rw [show min l.length ((l.length + 1) * 1) = l.length * 1 by omega] at h2
    rw [h2, List.take_of_length_le (by rw [natInts_len]; omega)]
end
/-- What look keeps beside. -/
structure HkAt (w0 w : World) (a : Option Addr) (D : FD) (rb bm bo sb m : Nat) (M : DataW Unit) (R : Nat → Bool) : Prop where
  bel : Below w0.heap.size w0 w
  fa : FacAt w0 a D
  mp : w.ownsMap Tryd.prog 177 (plainElem (H := Unit) Tryd.prog 3) bm m M
  ou : OutAt w bo D.n R
  sv : w.heap[sb]? = some (.cells #[.map (some bm), .slice (some ⟨bo, 0, none⟩) D.n D.n] 166 (0, 0))
  rv : w.heap[rb]? = some (.cells #[.map none, .slice none 0 0] 166 (0, 0))
  ord : w0.heap.size ≤ rb ∧ rb < bm ∧ bm < bo ∧ bo < sb
section
variable {w0 w w' : World} {a : Option Addr} {D : FD} {rb bm bo sb m : Nat} {M : DataW Unit} {R : Nat → Bool}
theorem lt_of_block' {w : World} {b : Nat} {o : Obj} (h : w.heap[b]? = some o) : b < w.heap.size := by
  rcases Nat.lt_or_ge b w.heap.size with h' | h'
  · exact h'
  · simp [Array.getElem?_eq_none h'] at h
theorem HkAt.sl (h : HkAt w0 w a D rb bm bo sb m M R) : sb < w.heap.size := lt_of_block' h.sv
theorem HkAt.step (h : HkAt w0 w a D rb bm bo sb m M R) (hb : Below w.heap.size w w') : HkAt w0 w' a D rb bm bo sb m M R :=
  ⟨h.bel.trans (hb.mono h.bel.size), h.fa, mapbelow h.mp hb, rowbelow h.ou hb, (hb.block sb h.sl).trans h.sv, (hb.block rb (by have := h.sl; have := h.ord; omega)).trans h.rv, h.ord⟩
theorem HkAt.s0 (h : HkAt w0 w a D rb bm bo sb m M R) : w.cell? ⟨sb, 0, none⟩ = some (.map (some bm)) := by simp [World.cell?, h.sv]
theorem HkAt.s1 (h : HkAt w0 w a D rb bm bo sb m M R) : w.cell? ⟨sb, 1, none⟩ = some (.slice (some ⟨bo, 0, none⟩) D.n D.n) := by simp [World.cell?, h.sv]
/-- A row above was written. -/
theorem HkAt.up (h : HkAt w0 w a D rb bm bo sb m M R) {row : Option Nat} (hg : w.grownBy w' row) (hr : ∀ g, row = some g → sb < g) : HkAt w0 w' a D rb bm bo sb m M R := by
  have ho := h.ord
  have ne : ∀ k, k ≤ sb → some k ≠ row := fun k hk e => by have := hr k e.symm; omega
  exact ⟨h.bel.grown hg h.bel.size (fun k hk => by have := hr k hk; omega), h.fa, h.mp.kept hg (ne bm (by omega)), World.ownsRow.kept h.ou hg (.inr (ne bo (by omega))), (hg.block sb h.sl (ne sb (by omega))).trans h.sv, (hg.block rb (by have := h.sl; omega) (ne rb (by omega))).trans h.rv, h.ord⟩
theorem HkAt.put (h : HkAt w0 w a D rb bm bo sb m M R) {m' : Nat} {M' : DataW Unit} (hM : w'.ownsMap Tryd.prog 177 (plainElem (H := Unit) Tryd.prog 3) bm m' M') (hg : w.grownBy w' (some bm)) : HkAt w0 w' a D rb bm bo sb m' M' R := by
  have ho := h.ord
  have ne : ∀ k, k ≠ bm → some k ≠ some bm := fun k hk e => by injection e with e; exact hk e
  exact ⟨h.bel.grown hg h.bel.size (fun k hk => by injection hk with e; omega), h.fa, hM, h.ou.kept hg (by omega), (hg.block sb h.sl (ne sb (by omega))).trans h.sv, (hg.block rb (by have := h.sl; omega) (ne rb (by omega))).trans h.rv, h.ord⟩
theorem HkAt.tell (h : HkAt w0 w a D rb bm bo sb m M R) (i : Nat) (hi : i < D.n) (b : Bool) : HkAt w0 (w.setCell ⟨bo, i, none⟩ (.bool b)) a D rb bm bo sb m M (updB R i b) ∧ w.grownBy (w.setCell ⟨bo, i, none⟩ (.bool b)) (some bo) := by
  have ho := h.ord
  have hs := h.ou.set i hi b
  have ne : ∀ k, k ≠ bo → some k ≠ some bo := fun k hk e => by injection e with e; exact hk e
  exact ⟨⟨h.bel.grown hs.2 h.bel.size (fun k hk => by injection hk with e; omega), h.fa, h.mp.kept hs.2 (ne bm (by omega)), hs.1, (hs.2.block sb h.sl (ne sb (by omega))).trans h.sv, (hs.2.block rb (by have := h.sl; omega) (ne rb (by omega))).trans h.rv, h.ord⟩, hs.2⟩
theorem HkAt.few (h : HkAt w0 w a D rb bm bo sb m M R) {m' : Nat} (hm : m ≤ m') : HkAt w0 w a D rb bm bo sb m' M R := ⟨h.bel, h.fa, h.mp.mono hm, h.ou, h.sv, h.rv, h.ord⟩
end
/-- How many are told not to, in memory. -/
def flsW (w : World) (bo n : Nat) : Nat := fls (fun k => match w.cell? ⟨bo, k, none⟩ with | some (.bool b) => b | _ => true) n
theorem flsW_is {w : World} {bo n : Nat} {R : Nat → Bool} (h : OutAt w bo n R) : flsW w bo n = fls R n := fls_congr n fun x hx => by simp [(h.at_ x hx).1]
def lenOf : Value → Nat | .slice _ n _ => n | _ => 0
end Go.Proofs.YtahhnfhnlffmpaaDoor
namespace Go.Proofs.YtahhnfhnlffmpaaDoor
open Go.ChangeShapes Go.WideShapes Go.ChangeAt Go.RowKit Go.Maps
set_option linter.unusedVariables false
theorem hinfoInt : (Tryd.prog.info? 3).map (fun i => (i.zero, i.size, i.bytes)) = some (some (.int .i64 0), 1, 8) := by kernel_rfl
theorem hinfoB : (Tryd.prog.info? 4).map (fun i => (i.zero, i.size, i.bytes)) = some (some (.bool false), 1, 1) := by kernel_rfl
theorem hinfoS : (Tryd.prog.info? 56).map (fun i => (i.zero, i.size, i.bytes)) = some (some (.slice none 0 0), 1, 24) := by kernel_rfl
theorem own_shape {w : World} {B E s n : Nat} {v : Value} {xs : List Value} (h : w.ownsRow B E s v n xs) : ∃ a c, v = .slice a n c := by
  rcases h.2 with ⟨rfl, rfl⟩ | ⟨g, cap, cur, rfl, _⟩
  · exact ⟨_, _, rfl⟩
  · exact ⟨_, _, rfl⟩
theorem int_one (x : Int) : ∀ u ∈ [Value.int .i64 x], u.oneCell' = true := by intro u hu; simp at hu; subst hu; rfl
section
variable {w w3 : World} {a : Option Addr} {D : FD}
theorem HkAt.start (hF : FacAt w a D) (ho : w3.ownsRow 0 4 1 (.slice (some ⟨w.heap.size + 1 + 1, 0, none⟩) D.n D.n) D.n (madeCells (Value.bool false).cells (D.n * 1)).toList) (hg : ((w.alloc (.cells #[.map none, .slice none 0 0] 166 (0, 0))).alloc (.map #[] 0)).grownBy w3 none) :
    HkAt w (w3.alloc (.cells #[.map (some (w.heap.size + 1)), .slice (some ⟨w.heap.size + 1 + 1, 0, none⟩) D.n D.n] 166 (0, 0))) a D w.heap.size (w.heap.size + 1) (w.heap.size + 1 + 1) w3.heap.size 0 (.map []) (fun _ => false) := by
  have e1 : (w.alloc (.cells #[.map none, .slice none 0 0] 166 (0, 0))).heap.size = w.heap.size + 1 := by simp
  have e2 : ((w.alloc (.cells #[.map none, .slice none 0 0] 166 (0, 0))).alloc (.map #[] 0)).heap.size = w.heap.size + 1 + 1 := by simp
  have hb : Below ((w.alloc (.cells #[.map none, .slice none 0 0] 166 (0, 0))).alloc (.map #[] 0)).heap.size ((w.alloc (.cells #[.map none, .slice none 0 0] 166 (0, 0))).alloc (.map #[] 0)) w3 := (Below.refl _ _).grown hg (Nat.le_refl _) (fun k hk => by cases hk)
  have hb1 : Below w.heap.size w ((w.alloc (.cells #[.map none, .slice none 0 0] 166 (0, 0))).alloc (.map #[] 0)) := ((Below.refl _ _).alloc (Nat.le_refl _) _).alloc (by simp) _
  have hb2 := hb1.trans (hb.mono hb1.size)
  have hm := World.ownsMap_made (w.alloc (.cells #[.map none, .slice none 0 0] 166 (0, 0))) Tryd.prog 177 (plainElem (H := Unit) Tryd.prog 3)
  rw [e1] at hm
  have hlt : w.heap.size + 1 + 1 < w3.heap.size := (ho.lt _ rfl).2
  refine ⟨hb2.alloc hb2.size _, hF, (hm.kept hg (by simp)).alloc _, ?_, heap_alloc_new _ _, ?_, by omega⟩
  · have e : (madeCells (Value.bool false).cells (D.n * 1)).toList = bools (fun _ => false) D.n := by
      rw [Nat.mul_one]
      show (madeCells #[Value.bool false] D.n).toList = _
      rw [toList_madeCells_one]
      simp [bools, List.map_const']
    rw [e] at ho
    exact ho.alloc _
  · have h0 := heap_alloc_new w (.cells #[.map none, .slice none 0 0] 166 (0, 0))
    have h1 : ((w.alloc (.cells #[.map none, .slice none 0 0] 166 (0, 0))).alloc (.map #[] 0)).heap[w.heap.size]? = some (.cells #[.map none, .slice none 0 0] 166 (0, 0)) := (Below.heap_alloc _ _ _ (by simp)).trans h0
    have h2 : w3.heap[w.heap.size]? = some (.cells #[.map none, .slice none 0 0] 166 (0, 0)) := (hg.block _ (by simp; omega) (by simp)).trans h1
    exact (Below.heap_alloc _ _ _ (by omega)).trans h2
theorem LkAt.start {n : Nat} (hg : w.grownBy w3 none) (ho : w3.ownsRow 0 56 1 (.slice (some ⟨w.heap.size, 0, none⟩) n n) n (madeCells (Value.slice none 0 0).cells (n * 1)).toList) : LkAt w3 (w.heap.size + 1) w.heap.size n (.slice none 0 0) [] (fun _ => .slice none 0 0) (fun _ => []) := by
  have e : (madeCells (Value.slice none 0 0).cells (n * 1)).toList = valRow (fun _ => .slice none 0 0) n := by
    rw [Nat.mul_one]
    show (madeCells #[Value.slice none 0 0] n).toList = _
    rw [toList_madeCells_one]
    simp [valRow, List.map_const']
  rw [e] at ho
  exact ⟨ho, fun k hk => World.ownsRow_nil _ _ _ _, World.ownsRow_nil _ _ _ _, (fun k hk q hq hkq g hgk => by cases hgk), (fun k hk g hgk => by cases hgk), Nat.lt_succ_self _⟩
end
theorem InF.lay {w : World} {o : Obj} {e : Addr} {y0 y1 y2 y3 y4 : Int} (h : InF w e y0 y1 y2 y3 y4) (hl : e.block < w.heap.size) : InF (w.alloc o) e y0 y1 y2 y3 y4 := h.below ((Below.refl _ _).alloc (Nat.le_refl _) _) hl
theorem cell_lay {w : World} {b j : Nat} {v : Value} (h : w.cell? ⟨b, j, none⟩ = some v) (o : Obj) : (w.alloc o).cell? ⟨b, j, none⟩ = some v := by
  have hl : b < w.heap.size := by
    rcases Nat.lt_or_ge b w.heap.size with h' | h'
    · exact h'
    · simp [World.cell?, Array.getElem?_eq_none h'] at h
  exact ((Below.refl w.heap.size w).alloc (Nat.le_refl _) o).cell (p := ⟨b, j, none⟩) hl |>.trans h
theorem frozen_lay {w : World} {b j : Nat} (hl : b < w.heap.size) (h : w.frozen? ⟨b, j, none⟩ = false) (o : Obj) : (w.alloc o).frozen? ⟨b, j, none⟩ = false :=
  (((Below.refl w.heap.size w).alloc (Nat.le_refl _) o).frozen (p := ⟨b, j, none⟩) hl).trans h
theorem Fac.own_some {F : Fac} {i j a : Nat} (h : F.tg i j = some a) : F.own i j = false := by simp [own, h]
theorem Fac.own_none {F : Fac} {i j : Nat} {s : Bool} (h : F.tg i j = none) (hs : F.sn i j = s) : F.own i j = !s := by simp [own, h, hs]
theorem LkAt.mid {w w' : World} {lo bu n : Nat} {vw : Value} {l : List Nat} {V : Nat → Value} {U : Nat → List Nat} (h : LkAt w lo bu n vw l V U) (a : Nat) (ha : a < n) (hg : w.grownBy w' (V a).ownBlock) : w'.cell? ⟨bu, a, none⟩ = some (V a) ∧ w'.frozen? ⟨bu, a, none⟩ = false ∧ w'.grownBy (w'.setCell ⟨bu, a, none⟩ (.int .i64 0)) (some bu) := by
  have hne : (V a).ownBlock ≠ some bu := fun e => by have := ((h.row a ha).lt bu e).1; have := h.lo_; omega
  have hus := h.us.kept hg (.inr fun e => hne (by rw [← e]; rfl))
  refine ⟨?_, World.ownsRow.frozenAt hus a, (World.ownsRow.stored hus a _).2⟩
  rw [World.ownsRow.cellAt hus a (by omega), valRow_at _ _ _ ha]
theorem grown_one (w : World) (b j : Nat) (u : Value) : w.grownBy (w.setCell ⟨b, j, none⟩ u) (some b) :=
  ⟨rfl, rfl, rfl, by simp, fun k hk hne => Below.heap_setCell _ _ _ _ (fun e => hne (by simpa using e))⟩
set_option maxRecDepth 100000 in
set_option maxHeartbeats 8000000 in
theorem hlook_any (a : Option Addr) (D : FD) (cap : Nat) (sn : Nat → Nat → Bool) (w : World) (hF : FacAt w a D) (hS : SnOk D sn) :
    Calls Tryd.prog 91 #[.slice a D.n cap] w fun e w' => ∃ bm bo m M R, e = .returned (.agg #[.map (some bm), .slice (some ⟨bo, 0, none⟩) D.n D.n]) ∧ SvAt w' D bm bo m M R ∧ Hid (∀ x, x < D.n → (R x = true ↔ (D.fac sn).Reach x)) ∧ Below w.heap.size w w' := by
  have HF := Lib.hid hF
  have HSn := Lib.hid hS
  have hmm := @run_makeMap Tryd.prog
  obtain ⟨ib, hi1, hi2, hi3, hi4⟩ := info_parts hinfoB
  obtain ⟨is, hs1, hs2, hs3, hs4⟩ := info_parts hinfoS
  obtain ⟨ii, hj1, hj2, hj3, hj4⟩ := info_parts hinfoInt
  have HIB := Lib.hid (⟨hi1, hi2, hi3⟩ : Tryd.prog.info? 4 = some ib ∧ ib.zero = some (.bool false) ∧ ib.size = 1)
  have HIS := Lib.hid (⟨hs1, hs2, hs3⟩ : Tryd.prog.info? 56 = some is ∧ is.zero = some (.slice none 0 0) ∧ is.size = 1)
  have HII := Lib.hid (⟨hj1, hj2, hj3, hj4⟩ : Tryd.prog.info? 3 = some ii ∧ ii.zero = some (.int .i64 0) ∧ ii.size = 1 ∧ ii.bytes = 8)
  have few := hF.few
  have HN : Hid (ib.bytes * D.n ≤ 281474976710656 ∧ is.bytes * D.n ≤ 281474976710656 ∧ D.n ≤ maxLen) := Lib.hid (by rw [hi4, hs4]; unfold maxLen; omega)
  clear hi1 hi2 hi3 hi4 hs1 hs2 hs3 hs4 hj1 hj2 hj3 hj4 hF hS
  go_enter Tryd.func91, Tryd.ntmps91
  go_upto_region 2 with (first
    | (at_make; refine wpList_make_full _ rfl _ _ 29 rfl 0 4 ib (.bool false) 1 Tryd.underlying29 HIB.out.1 HIB.out.2.1 HIB.out.2.2 .i64 .i64 _ _ D.n rfl rfl rfl rfl HN.out.1 HN.out.2.2 (Nat.zero_le _) ?_; intro w3 hown hgrow; have HO := Lib.hid hown; have HG := Lib.hid hgrow; clear hown hgrow))
  clear hmm
  obtain ⟨sb, Hsb⟩ : ∃ sb, Hid (w3.heap.size = sb) := ⟨_, Lib.hid rfl⟩
  obtain ⟨bm, Hbm⟩ : ∃ bm, Hid (w.heap.size + 1 = bm) := ⟨_, Lib.hid rfl⟩
  obtain ⟨w4, hw4⟩ : ∃ w4, w4 = w3.alloc (.cells #[.map (some (w.heap.size + 1)), .slice (some ⟨w.heap.size + 1 + 1, 0, none⟩) D.n D.n] 166) := ⟨_, rfl⟩
  have H4 : Hid (HkAt w w4 a D w.heap.size bm (bm + 1) sb 0 (.map []) (fun _ => false)) := Lib.hid (by
    have h := HkAt.start HF.out (by simpa using HO.out) HG.out
    rw [hw4, ← Hsb.out, ← Hbm.out]
    exact h)
  rw [← hw4, Hsb.out]
  clear hw4 HO HG
  go_wp2_with fail
  go_loopw [27] (fun z wr => ∃ (m : Nat) (M : DataW Unit), m ≤ D.n ∧ z = .int .i64 m ∧ HkAt w wr a D w.heap.size bm (bm + 1) sb m M (fun _ => false) ∧ MapIs D m M) (fun z _ => D.n - (intOf z).toNat)
  case atStart => exact ⟨0, _, by omega, rfl, H4.out, MapIs.start D⟩
  case round =>
    obtain ⟨m, M, hm, rfl, hk, hmi⟩ := hrel
    have HK := Lib.hid hk
    have HMI := Lib.hid hmi
    clear hk hmi
    by_cases hlt : m < D.n
    · obtain ⟨ad, rfl, hbl, hrow, hw1, hw2⟩ := HF.out.row m hlt
      obtain ⟨i0, i1, i2, i3⟩ := hrow.below HK.out.bel hbl
      have HKN := Lib.hid (kN_is hw1 hw2)
      have HWF := Lib.hid (⟨hw1, hw2⟩ : wfH (D.id m) ∧ wfH (D.ver m))
      have m0 : (0 : Int) ≤ m := by omega
      have m1 : (m : Int) < D.n := by omega
      have hs0 := HK.out.s0
      have s0 : ∀ o o', ((wr.alloc o).alloc o').cell? ⟨sb, 0, none⟩ = some (.map (some bm)) := fun o o' => cell_lay (cell_lay hs0 o) o'
      have HB2 : Hid (∀ o o', Below wr.heap.size wr ((wr.alloc o).alloc o')) := Lib.hid fun o o' => ((Below.refl _ _).alloc (Nat.le_refl _) _).alloc (by simp) _
      clear hs0 hrow hw1 hw2 hbl
      cases hq : D.fidx (D.id m) (D.ver m) m with
      | some i =>
        have hh : Maps.has M (kN (D.id m) (D.ver m)) = true := by rw [HMI.out.has _ _ HWF.out.1 HWF.out.2, hq]; rfl
        have HQ := Lib.hid hq
        clear hq
        go_wp2_with (first | (at_lookup; refine wpList_lookup_own_ok_int _ rfl _ _ 164 rfl 177 3 .i64 lawN Tryd.underlying164 Tryd.underlying3 (zeroI _) _ m M rfl ((HK.out.mp.alloc _).alloc _) _ _ rfl HKN.out ?_; intro c hat hwc; clear hat hwc))
        go_roundw
        case rel => exact ⟨m + 1, _, by omega, by go_num, (HK.out.step (HB2.out _ _)).few (Nat.le_succ m), HMI.out.skip HQ.out⟩
        case measure => simp [intOf]; omega
      | none =>
        have hh : Maps.has M (kN (D.id m) (D.ver m)) = false := by rw [HMI.out.has _ _ HWF.out.1 HWF.out.2, hq]; rfl
        have HQ := Lib.hid hq
        have HML : Hid (m < maxLen) := Lib.hid (by have := HN.out.2.2; omega)
        have HWM : Hid ((Lit.int .i64 (m : Int)).wf = true) := Lib.hid (wfH.mk (by omega) (by have := HN.out.2.2; unfold maxLen at this; omega))
        clear hq
        go_wp2_with (first
          | (at_lookup; refine wpList_lookup_own_ok_int _ rfl _ _ 164 rfl 177 3 .i64 lawN Tryd.underlying164 Tryd.underlying3 (zeroI _) _ m M rfl ((HK.out.mp.alloc _).alloc _) _ _ rfl HKN.out ?_; intro c hat hwc; clear hat hwc)
          | (at_mapUpdate; refine wpList_mapUpdate_own _ rfl _ _ _ 164 rfl 177 3 lawN Tryd.underlying164 _ _ m M rfl ((HK.out.mp.alloc _).alloc _) HML.out _ _ _ rfl rfl HKN.out _ [] (plainElem_int Tryd.underlying3 HWM.out) ?_; intro w5 hown hgrow; have HK5 := Lib.hid ((HK.out.step (HB2.out _ _)).put hown hgrow); clear hown hgrow))
        go_roundw
        case rel => exact ⟨m + 1, _, by omega, by go_num, HK5.out, HMI.out.put HK.out.mp.isMap HQ.out HWF.out.1 HWF.out.2⟩
        case measure => simp [intOf]; omega
    · obtain rfl : m = D.n := by omega
      have hdd : decide (D.n < D.n) = false := by simp
      have HSB : Hid (sb < wr.heap.size) := Lib.hid HK.out.sl
      go_upto_region 12 with (first
        | (at_make; refine wpList_make_full _ rfl _ _ 179 rfl 0 56 is (.slice none 0 0) 1 Tryd.underlying179 HIS.out.1 HIS.out.2.1 HIS.out.2.2 .i64 .i64 _ _ D.n rfl rfl rfl rfl HN.out.2.1 HN.out.2.2 (Nat.zero_le _) ?_; intro w6 hown hgrow; have HL6 := Lib.hid (LkAt.start hgrow hown); have HK6 := Lib.hid (HK.out.up hgrow (fun g h => by cases h)); clear hown hgrow))
      obtain ⟨bu, Hbu⟩ : ∃ bu, Hid (wr.heap.size = bu) := ⟨_, Lib.hid rfl⟩
      rw [Hbu.out] at HL6 HSB
      rw [Hbu.out]
      clear Hbu HK
      go_wp2_with fail
      go_loopw [56, 10] (fun z vw wr => ∃ (m : Nat) (U : Nat → List Nat) (V : Nat → Value) (l : List Nat) (R : Nat → Bool), m ≤ D.n ∧ z = .int .i64 m ∧ LkAt wr (bu + 1) bu D.n vw l V U ∧ HkAt w wr a D w.heap.size bm (bm + 1) sb D.n M R ∧ UsOk (D.fac sn) m 0 U ∧ BkOk (D.fac sn) m R l) (fun z _ _ => D.n - (intOf z).toNat)
      case atStart => exact ⟨0, _, _, _, _, by omega, rfl, HL6.out, HK6.out, UsOk.start _, BkOk.start _ _⟩
      case round =>
        obtain ⟨m, U, V, l, R, hm, rfl, hl, hk, hu, hbk⟩ := hrel
        have HL := Lib.hid hl
        have HK := Lib.hid hk
        have HU := Lib.hid hu
        have HBk := Lib.hid hbk
        clear hl hk hu hbk hdd
        by_cases hlt : m < D.n
        · obtain ⟨ad, rfl, hbl, hrow, hw1, hw2⟩ := HF.out.row m hlt
          obtain ⟨i0, i1, i2, i3⟩ := hrow.below HK.out.bel hbl
          obtain ⟨pa, Hpa⟩ : ∃ pa, Hid (D.pa m = pa) := ⟨_, Lib.hid rfl⟩
          obtain ⟨ct, Hct⟩ : ∃ ct, Hid (D.ct m = ct) := ⟨_, Lib.hid rfl⟩
          obtain ⟨cp, Hcp⟩ : ∃ cp, Hid (D.cp m = cp) := ⟨_, Lib.hid rfl⟩
          obtain ⟨xi, Hxi⟩ : ∃ xi, Hid (D.id m = xi) := ⟨_, Lib.hid rfl⟩
          obtain ⟨xv, Hxv⟩ : ∃ xv, Hid (D.ver m = xv) := ⟨_, Lib.hid rfl⟩
          obtain ⟨xs, Hxs⟩ : ∃ xs, Hid (D.sl m = xs) := ⟨_, Lib.hid rfl⟩
          rw [Hpa.out, Hct.out, Hcp.out] at i3
          rw [Hxi.out] at i0
          rw [Hxv.out] at i1
          rw [Hxs.out] at i2
          have m0 : (0 : Int) ≤ m := by omega
          have m1 : (m : Int) < D.n := by omega
          have hs1 := HK.out.s1
          have s1 : ∀ o, (wr.alloc o).cell? ⟨sb, 1, none⟩ = some (.slice (some ⟨bm + 1, 0, none⟩) D.n D.n) := fun o => cell_lay hs1 o
          have hou := HK.out.ou.at_ m hlt
          have b1 : ∀ o, (wr.alloc o).cell? ⟨bm + 1, m, none⟩ = some (.bool (R m)) := fun o => cell_lay hou.1 o
          have f1 : ∀ o, (wr.alloc o).frozen? ⟨bm + 1, m, none⟩ = false := fun o => frozen_lay HK.out.ou.lt hou.2 o
          clear hs1 hou hrow hbl hw1 hw2
          go_upto_region 16 with fail
          obtain ⟨w7, hw7⟩ : ∃ w7, w7 = (wr.alloc (.cells #[.int .i64 xi, .int .i64 xv, .bool xs, .slice pa ct cp] 110)).setCell ⟨bm + 1, m, none⟩ (.bool !xs) := ⟨_, rfl⟩
          obtain ⟨fb, hfb⟩ : ∃ fb, fb = wr.heap.size := ⟨_, rfl⟩
          have HK7 : Hid (HkAt w w7 _ D w.heap.size bm (bm + 1) sb D.n M (updB R m (!xs))) := Lib.hid (by rw [hw7]; exact ((HK.out.step ((Below.refl _ _).alloc (Nat.le_refl _) _)).tell m hlt _).1)
          have HL7 : Hid (LkAt w7 (bu + 1) bu D.n u10 l V U) := Lib.hid (by
            have ho := HK.out.ord
            have h2 := HSB.out
            rw [hw7]
            exact (HL.out.below ((Below.refl _ _).alloc (Nat.le_refl _) _)).low ((HK.out.step ((Below.refl _ _).alloc (Nat.le_refl _) _)).tell m hlt _).2 (by omega) (by omega))
          have g3 : w7.cell? ⟨fb, 3, none⟩ = some (.slice pa ct cp) := by
            have ho := HK.out.ord
            have h2 := HK.out.sl
            rw [hw7, hfb]
            have hg := ((HK.out.step (w' := wr.alloc (.cells #[.int .i64 xi, .int .i64 xv, .bool xs, .slice pa ct cp] 110 (0, 0))) ((Below.refl _ _).alloc (Nat.le_refl _) _)).tell m hlt (!xs)).2
            exact hg.cell (a := ⟨wr.heap.size, 3, none⟩) (by simp) (by simp; omega)
          rw [← hw7, ← hfb]
          clear hw7 hfb i0 i1 i2 i3 s1 b1 f1
          go_wp2_with fail
          clear g3
          have HR0 : Hid (updB R m (!xs) m = (D.fac sn).baseTo m 0) := Lib.hid (by rw [updB_same, Fac.base0, ← Hxs.out]; rfl)
          go_loopw [71] (fun z wr => ∃ (q : Nat) (U : Nat → List Nat) (V : Nat → Value) (R' : Nat → Bool), q ≤ ct ∧ z = .int .i64 q ∧ LkAt wr (bu + 1) bu D.n u10 l V U ∧ HkAt w wr (some ad) D w.heap.size bm (bm + 1) sb D.n M R' ∧ UsOk (D.fac sn) m q U ∧ Hid (R' m = (D.fac sn).baseTo m q) ∧ Hid (∀ x, x < m → R' x = R x)) (fun z _ => ct - (intOf z).toNat)
          case atStart => exact ⟨0, U, V, _, by omega, rfl, HL7.out, HK7.out, HU.out, HR0, Lib.hid (fun x hx => updB_other _ _ _ _ (by omega))⟩
          case round =>
            obtain ⟨q, U2, V2, R2, hq, rfl, hl, hk, hu, hr1, hr2⟩ := hrel
            have HL2 := Lib.hid hl
            have HK2 := Lib.hid hk
            have HU2 := Lib.hid hu
            clear hl hk hu
            have h64 : ct ≤ 64 := by rw [← Hct.out]; exact HF.out.few2 m
            by_cases hlt2 : q < ct
            · obtain ⟨pd, hpa, hbl, hin, hw1, hw2⟩ := HF.out.part m hlt q (by rw [Hct.out]; exact hlt2)
              rw [Hpa.out] at hpa
              subst hpa
              have HS2 : Hid (Sens (D.key m q 0) (D.key m q 1) (D.key m q 2) (D.key m q 3) (D.key m q 4) (sn m q)) := Lib.hid (HSn.out m q hlt (by rw [Hct.out]; exact hlt2))
              have hin2 := hin.below HK2.out.bel hbl
              obtain ⟨tg, htg⟩ : ∃ tg, D.tgt (D.key m q 0) (D.key m q 1) (D.key m q 2) = tg := ⟨_, rfl⟩
              have HFT : Hid ((D.fac sn).tg m q = tg) := Lib.hid htg
              obtain ⟨k0, Hk0⟩ : ∃ k0, Hid (D.key m q 0 = k0) := ⟨_, Lib.hid rfl⟩
              obtain ⟨k1, Hk1⟩ : ∃ k1, Hid (D.key m q 1 = k1) := ⟨_, Lib.hid rfl⟩
              obtain ⟨k2, Hk2⟩ : ∃ k2, Hid (D.key m q 2 = k2) := ⟨_, Lib.hid rfl⟩
              obtain ⟨k3, Hk3⟩ : ∃ k3, Hid (D.key m q 3 = k3) := ⟨_, Lib.hid rfl⟩
              obtain ⟨k4, Hk4⟩ : ∃ k4, Hid (D.key m q 4 = k4) := ⟨_, Lib.hid rfl⟩
              rw [Hk0.out, Hk1.out, Hk2.out, Hk3.out, Hk4.out] at hin2 HS2
              rw [Hk0.out, Hk1.out, Hk2.out] at htg
              rw [Hk1.out] at hw1
              rw [Hk2.out] at hw2
              have HW := Lib.hid (⟨hw1, hw2⟩ : wfH k1 ∧ wfH k2)
              obtain ⟨i0, i1, i2, i3, i4⟩ := hin2
              have q0 : (0 : Int) ≤ q := by omega
              have q1 : (q : Int) < ct := by omega
              have hs0 := HK2.out.s0
              have hs1 := HK2.out.s1
              have s0 : ∀ o, (wr.alloc o).cell? ⟨sb, 0, none⟩ = some (.map (some bm)) := fun o => cell_lay hs0 o
              have s1 : ∀ o, (wr.alloc o).cell? ⟨sb, 1, none⟩ = some (.slice (some ⟨bm + 1, 0, none⟩) D.n D.n) := fun o => cell_lay hs1 o
              have HMI2 := HMI
              clear hs0 hs1 hw1 hw2 hin hbl
              cases tg with
              | some i =>
                have HT := Lib.hid htg
                have hi : i < D.n := FD.tgt_lt htg
                obtain ⟨ua, uc, hV, -, -⟩ := HL2.out.shape i hi
                have HV := Lib.hid hV
                have hul := HU2.out.len i
                have H6 : Hid (∀ W : World, wr.heap.size ≤ W.heap.size → (U2 i).length + 1 ≤ maxLen ∧ ((U2 i).length + 1) * 8 ≤ 140737488355328 ∧ ∀ o, bu + 1 ≤ (W.alloc o).heap.size) := Lib.hid (fun W hW => ⟨by unfold maxLen; omega, by omega, fun o => by have := HL2.out.ul; simp; omega⟩)
                have j0 : (0 : Int) ≤ i := by omega
                have j1 : (i : Int) < D.n := by omega
                clear htg hV hul
                go_wp2_with (first
                  | (go_at_call 99; (with_reducible refine (hfactory_some k0 k1 k2 k3 k4 D i bm (bm + 1) D.n D.n D.n M HT HW.out.1 HW.out.2 _ (HK2.out.mp.alloc _) HMI.out).mono ?_); rintro e w8 ⟨rfl, hb⟩; have HB8 : Hid (Below wr.heap.size wr w8) := Lib.hid (Below.trans ((Below.refl _ _).alloc (Nat.le_refl _) _) (hb.mono (by simp))); have H68 := Lib.hid (H6.out w8 HB8.out.size); have u0 := ((HL2.out.below HB8.out).at_ i hi).1; rw [HV.out] at u0; have hrw := (HL2.out.below HB8.out).row i hi; rw [HV.out] at hrw; have HR8 := Lib.hid hrw; clear hb hrw)
                  | ((at_builtin; refine wpList_append_own_at _ rfl _ _ 56 rfl (bu + 1) 3 ii (.int .i64 0) 1 8 Tryd.underlying56 HII.out.1 HII.out.2.1 HII.out.2.2.1 HII.out.2.2.2 rfl (by decide) _ _ _ rfl (HR8.out.alloc _) ⟨w8.heap.size, 0, none⟩ 1 1 [.int .i64 (m : Int)] rfl rfl (cell_one_new _ _ _) (int_one _) H68.out.1 H68.out.2.1 (H68.out.2.2 _) ?_; intro v' w9 hown hgrow hnil hloc; obtain ⟨va, vc, rfl⟩ := own_shape hown; have HOW := Lib.hid hown; have HGR := Lib.hid ((World.grownBy_alloc _ _ _).trans hgrow); have HLOC := Lib.hid hloc; clear hown hgrow hnil hloc); obtain ⟨z0, z1, z2⟩ := (HL2.out.below HB8.out).mid i hi (show w8.grownBy w9 (V2 i).ownBlock by rw [HV.out]; exact HGR.out); clear z2 u0))
                have HL8 := Lib.hid (HL2.out.below HB8.out)
                have hg8 : w8.grownBy w9 (V2 i).ownBlock := by rw [HV.out]; exact HGR.out
                have HLo : (Value.slice va ((U2 i).length + 1) vc).ownBlock = (V2 i).ownBlock ∨ ∃ z, (Value.slice va ((U2 i).length + 1) vc).ownBlock = some z ∧ w8.heap.size ≤ z := by
                  rcases HLOC.out with h | h
                  · exact .inl (by rw [HV.out]; exact h)
                  · exact .inr ⟨_, h, by simp⟩
                have HL9 := Lib.hid (HL8.out.push i hi HOW.out hg8 HLo)
                have HK9 := Lib.hid (((HK2.out.step HB8.out).up hg8 (fun g hg => by have := ((HL8.out.row i hi).lt g hg).1; have := HSB.out; omega)).up (grown_one w9 bu i (Value.slice va ((U2 i).length + 1) vc)) (fun g hg => by injection hg with hg; have := HSB.out; omega))
                clear hg8 HLo
                go_roundw
                case rel => exact ⟨q + 1, _, _, R2, by omega, by go_num, HL9.out, HK9.out, HU2.out.some HFT.out, Lib.hid (by rw [hr1.out, Fac.baseS, Fac.own_some HFT.out, Bool.or_false]), hr2⟩
                case measure => simp [intOf]; omega
              | none =>
                have HT := Lib.hid htg
                obtain ⟨sv, Hsv⟩ : ∃ sv, Hid (sn m q = sv) := ⟨_, Lib.hid rfl⟩
                rw [Hsv.out] at HS2
                have hou := HK2.out.ou
                clear htg
                cases sv with
                | true =>
                  go_wp2_with (first
                    | (go_at_call 99; (with_reducible refine (hfactory_none k0 k1 k2 k3 k4 D bm (bm + 1) D.n D.n D.n M HT HW.out.1 HW.out.2 _ (HK2.out.mp.alloc _) HMI.out).mono ?_); rintro e w8 ⟨rfl, hb⟩; obtain ⟨hc, hf⟩ := bcell hb; have HB8 : Hid (Below wr.heap.size wr w8) := Lib.hid (Below.trans ((Below.refl _ _).alloc (Nat.le_refl _) _) (hb.mono (by simp))); clear hb)
                    | (go_at_call 100; (with_reducible refine (HS2.out.at _).mono ?_); rintro e w9 ⟨rfl, hb⟩; have HB9 := Lib.hid (HB8.out.trans (hb.mono HB8.out.size)); clear hb hc hf))
                  go_roundw
                  case rel => exact ⟨q + 1, U2, V2, R2, by omega, by go_num, HL2.out.below HB9.out, HK2.out.step HB9.out, HU2.out.none HFT.out, Lib.hid (by rw [hr1.out, Fac.baseS, Fac.own_none HFT.out Hsv.out]; simp), hr2⟩
                  case measure => simp [intOf]; omega
                | false =>
                  go_wp2_with (first
                    | (go_at_call 99; (with_reducible refine (hfactory_none k0 k1 k2 k3 k4 D bm (bm + 1) D.n D.n D.n M HT HW.out.1 HW.out.2 _ (HK2.out.mp.alloc _) HMI.out).mono ?_); rintro e w8 ⟨rfl, hb⟩; obtain ⟨hc, hf⟩ := bcell hb; have HB8 : Hid (Below wr.heap.size wr w8) := Lib.hid (Below.trans ((Below.refl _ _).alloc (Nat.le_refl _) _) (hb.mono (by simp))); clear hb)
                    | (go_at_call 100; (with_reducible refine (HS2.out.at _).mono ?_); rintro e w9 ⟨rfl, hb⟩; have HB9 := Lib.hid (HB8.out.trans (hb.mono HB8.out.size)); clear hb hc hf s0 s1; have HK9 := Lib.hid (HK2.out.step HB9.out); have s1 := HK9.out.s1; obtain ⟨z0, z1⟩ := HK9.out.ou.at_ m hlt))
                  have HK10 := Lib.hid (HK9.out.tell m hlt true)
                  have HL10 := Lib.hid ((HL2.out.below HB9.out).low HK10.out.2 (by have := HK9.out.ord; have := HSB.out; omega) (by have := HK9.out.ord; have := HSB.out; omega))
                  go_roundw
                  case rel => exact ⟨q + 1, U2, V2, _, by omega, by go_num, HL10.out, HK10.out.1, HU2.out.none HFT.out, Lib.hid (by rw [updB_same, Fac.baseS, Fac.own_none HFT.out Hsv.out]; simp), Lib.hid (fun x hx => by rw [updB_other _ _ _ _ (by omega)]; exact hr2.out x hx)⟩
                  case measure => simp [intOf]; omega
            · obtain rfl : q = ct := by omega
              have hqq : decide (q < q) = false := by simp
              have HBs : Hid (R2 m = (D.fac sn).base m) := Lib.hid (by rw [hr1.out]; unfold Fac.base; rw [← Hct.out]; rfl)
              obtain ⟨bb, Hbb⟩ : ∃ bb, Hid (R2 m = bb) := ⟨_, Lib.hid rfl⟩
              have s1 := HK2.out.s1
              have b1 := (HK2.out.ou.at_ m hlt).1
              rw [Hbb.out] at b1
              have HU3 := Lib.hid (HU2.out.row (by rw [← Hct.out]; rfl) (HF.out.few2 m))
              cases bb with
              | true =>
                obtain ⟨wa, wc, hvw, -, -, -⟩ := HL2.out.wshape
                subst hvw
                have hbl := HBk.out.len
                have H6 : Hid (l.length + 1 ≤ maxLen ∧ (l.length + 1) * 8 ≤ 140737488355328 ∧ ∀ o, bu + 1 ≤ (wr.alloc o).heap.size) := Lib.hid ⟨by unfold maxLen; omega, by omega, fun o => by have := HL2.out.ul; simp; omega⟩
                clear hbl
                go_wp2_with (first
                  | (at_builtin; refine wpList_append_own_at _ rfl _ _ 56 rfl (bu + 1) 3 ii (.int .i64 0) 1 8 Tryd.underlying56 HII.out.1 HII.out.2.1 HII.out.2.2.1 HII.out.2.2.2 rfl (by decide) _ _ _ rfl (HL2.out.wk.alloc _) ⟨wr.heap.size, 0, none⟩ 1 1 [.int .i64 (m : Int)] rfl rfl (cell_one_new _ _ _) (int_one _) H6.out.1 H6.out.2.1 (H6.out.2.2 _) ?_; intro v' w9 hown hgrow hnil hloc; obtain ⟨va, vc, rfl⟩ := own_shape hown; have HOW := Lib.hid hown; have HGR := Lib.hid ((World.grownBy_alloc _ _ _).trans hgrow); have HLOC := Lib.hid hloc; clear hown hgrow hnil hloc))
                have HL9 := Lib.hid (HL2.out.more HOW.out HGR.out (by
                  rcases HLOC.out with h | h
                  · exact .inl h
                  · exact .inr ⟨_, h, by simp⟩))
                have HK9 := Lib.hid (HK2.out.up HGR.out (fun g hg => by have := (HL2.out.wk.lt g hg).1; have := HSB.out; omega))
                go_roundw
                case rel => exact ⟨m + 1, U2, V2, _, R2, by omega, by go_num, HL9.out, HK9.out, HU3.out, HBk.out.yes (by rw [← HBs.out, Hbb.out]) hr2.out Hbb.out⟩
                case measure => simp [intOf]; omega
              | false =>
                go_wp2_with fail
                go_roundw
                case rel => exact ⟨m + 1, U2, V2, l, R2, by omega, by go_num, HL2.out, HK2.out, HU3.out, HBk.out.no (by rw [← HBs.out, Hbb.out]) hr2.out Hbb.out⟩
                case measure => simp [intOf]; omega
        · obtain rfl : m = D.n := by omega
          have hdd : decide (D.n < D.n) = false := by simp
          have HWk : Hid (WkOk (D.fac sn) U R l) := Lib.hid (BkOk.work HBk.out)
          have HB0 : Hid (2 * fls R D.n + l.length ≤ 3 * D.n) := Lib.hid (by have h1 := fls_le R D.n; have h2 := HBk.out.len; omega)
          go_wp2_with fail
          clear hdd
          go_loopw [10] (fun vw wr => ∃ (l : List Nat) (R : Nat → Bool), LkAt wr (bu + 1) bu D.n vw l V U ∧ HkAt w wr a D w.heap.size bm (bm + 1) sb D.n M R ∧ WkOk (D.fac sn) U R l ∧ Hid (2 * fls R D.n + l.length ≤ 3 * D.n)) (fun vw wr => 2 * flsW wr (bm + 1) D.n + lenOf vw)
          case atStart => exact ⟨l, R, HL.out, HK.out, HWk.out, HB0⟩
          case round =>
            clear HL HK HBk HWk HB0
            obtain ⟨l, R, hl, hk, hw, HB0⟩ := hrel
            obtain ⟨wa, wc, hvw, hwa, hlc, hwm⟩ := hl.wshape
            have HL := Lib.hid hl
            have HK := Lib.hid hk
            have HWk := Lib.hid hw
            clear hl hk hw
            obtain ⟨ln, hln⟩ : ∃ ln, l.length = ln := ⟨_, rfl⟩
            rw [hln] at hvw hwa hlc
            have HLN := Lib.hid hln
            subst hvw
            clear hln
            have hs0 := HK.out.s0
            have hs1 := HK.out.s1
            by_cases h0 : ln = 0
            · subst h0
              have hl0 : l = [] := List.eq_nil_of_length_eq_zero HLN.out
              subst hl0
              have hrv := HK.out.rv
              have hrl := lt_of_block' hrv
              have r0 : wr.cell? ⟨w.heap.size, 0, none⟩ = some (.map none) := by simp [World.cell?, hrv]
              have r1 : wr.cell? ⟨w.heap.size, 1, none⟩ = some (.slice none 0 0) := by simp [World.cell?, hrv]
              have y0 : wr.frozen? ⟨w.heap.size, 0, none⟩ = false := by simp [World.frozen?, hrv]
              have y1 : wr.frozen? ⟨w.heap.size, 1, none⟩ = false := by simp [World.frozen?, hrv]
              clear hrv hwa hlc hwm
              go_wp2_with fail
              have ho := HK.out.ord
              have g0 := grown_one wr w.heap.size 0 (.map (some bm))
              have g1 := grown_one (wr.setCell ⟨w.heap.size, 0, none⟩ (.map (some bm))) w.heap.size 1 (.slice (some ⟨bm + 1, 0, none⟩) D.n D.n)
              have t1 : ((wr.setCell ⟨w.heap.size, 0, none⟩ (.map (some bm))).setCell ⟨w.heap.size, 1, none⟩ (.slice (some ⟨bm + 1, 0, none⟩) D.n D.n)).cell? ⟨w.heap.size, 1, none⟩ = some (.slice (some ⟨bm + 1, 0, none⟩) D.n D.n) := by go_simp
              have t0 : ((wr.setCell ⟨w.heap.size, 0, none⟩ (.map (some bm))).setCell ⟨w.heap.size, 1, none⟩ (.slice (some ⟨bm + 1, 0, none⟩) D.n D.n)).cell? ⟨w.heap.size, 0, none⟩ = some (.map (some bm)) := by go_simp
              refine bodyPost_ret (v := .agg #[.map (some bm), .slice (some ⟨bm + 1, 0, none⟩) D.n D.n]) (by simp [results, Tryd.results91, go_sem, t0, t1]) rfl ⟨bm, bm + 1, D.n, M, R, rfl, ⟨(HK.out.mp.kept g0 (by simp; omega)).kept g1 (by simp; omega), HMI.out, (HK.out.ou.kept g0 (by omega)).kept g1 (by omega)⟩, Lib.hid (HWk.out.all HU.out (fun i j b hb => FD.tgt_lt hb)), ?_⟩
              exact ((HK.out.bel.setCell (Nat.le_refl _) _).setCell (Nat.le_refl _) _)
            · obtain ⟨l1, i, rfl⟩ : ∃ l1 i, l = l1 ++ [i] := by
                rcases List.eq_nil_or_concat l with e | ⟨l1, i, e⟩
                · rw [e] at HLN; exact absurd HLN.out.symm h0
                · exact ⟨l1, i, by rw [e, List.concat_eq_append]⟩
              obtain ⟨p, hp⟩ : ∃ p, l1.length = p := ⟨_, rfl⟩
              have hlp : ln = p + 1 := by rw [← HLN.out, ← hp]; simp
              obtain ⟨g, rfl⟩ := hwa (by omega)
              have HLP := Lib.hid hlp
              have HPL := Lib.hid hp
              have cg : wr.cell? ⟨g, p, none⟩ = some (.int .i64 (i : Int)) := HL.out.todo (by rw [HLN.out]) (by rw [← hp]; simp)
              have HLp : Hid (LkAt wr (bu + 1) bu D.n (.slice (some ⟨g, 0, none⟩) p wc) l1 V U) := Lib.hid (by
                have h := HL.out
                rw [← HLN.out] at h
                have h2 := h.pop
                rwa [hp] at h2)
              have hi : i < D.n := (HWk.out.inn i (by simp)).1
              obtain ⟨ua, uc, hV, hua, -⟩ := HLp.out.shape i hi
              have u0 := (HLp.out.at_ i hi).1
              rw [hV] at u0
              have HV := Lib.hid hV
              obtain ⟨L, hL⟩ : ∃ L, (U i).length = L := ⟨_, rfl⟩
              have hul := HU.out.len i
              have hL2 : L ≤ 100000 := by rw [← hL]; omega
              rw [hL] at u0 hua
              have HLL := Lib.hid hL
              have e1 : (ln : Int) - 1 = (p : Int) := by omega
              have j0 : (0 : Int) ≤ i := by omega
              have j1 : (i : Int) < D.n := by omega
              have p0 : (0 : Int) ≤ p := by omega
              have p1 : (p : Int) < ln := by omega
              have p2 : (p : Int) ≤ wc := by omega
              have p3 : (0 : Int) < ln := by omega
              have p4 : decide (0 < ln) = true := decide_eq_true (by omega)
              have HWq : Hid (WqOk (D.fac sn) U R l1 i 0) := Lib.hid HWk.out.pop
              have HBq : Hid (2 * fls R D.n + l1.length + 1 ≤ 2 * fls R D.n + ln) := Lib.hid (by rw [hp]; omega)
              clear hp hlp hV hul hL h0 hs0
              go_wp2_with fail
              clear u0 cg e1 j0 j1 p0 p1 p2 p3 p4 hs1
              go_loopw [129, 10] (fun z vw wr => ∃ (q : Nat) (l2 : List Nat) (R2 : Nat → Bool), q ≤ L ∧ z = .int .i64 q ∧ LkAt wr (bu + 1) bu D.n vw l2 V U ∧ HkAt w wr a D w.heap.size bm (bm + 1) sb D.n M R2 ∧ WqOk (D.fac sn) U R2 l2 i q ∧ Hid (2 * fls R2 D.n + l2.length + 1 ≤ 2 * fls R D.n + ln)) (fun z _ _ => L - (intOf z).toNat)
              case atStart => exact ⟨0, l1, R, by omega, rfl, HLp.out, HK.out, HWq.out, HBq⟩
              case round =>
                obtain ⟨q, l2, R2, hq, rfl, hl, hk, hw, HB2⟩ := hrel
                obtain ⟨va, vc, hvw, -, -, -⟩ := hl.wshape
                have HL2 := Lib.hid hl
                have HK2 := Lib.hid hk
                have HW2 := Lib.hid hw
                obtain ⟨ln2, hln2⟩ : ∃ ln2, l2.length = ln2 := ⟨_, rfl⟩
                rw [hln2] at hvw
                have HLN2 := Lib.hid hln2
                subst hvw
                clear hl hk hw hln2
                by_cases hlt : q < L
                · obtain ⟨g2, rfl⟩ := hua (by omega)
                  obtain ⟨x, hx⟩ : ∃ x, (U i)[q]? = some x := ⟨_, List.getElem?_eq_getElem (by rw [HLL.out]; exact hlt)⟩
                  obtain ⟨hxn, hxr⟩ := HW2.out.user HU.out hx
                  have hxn' : x < D.n := hxn
                  have HX := Lib.hid hx
                  have HXR := Lib.hid hxr
                  have cx := HL2.out.user i hi HV.out hx
                  have hs1 := HK2.out.s1
                  have q0 : (0 : Int) ≤ q := by omega
                  have q1 : (q : Int) < L := by omega
                  have x0 : (0 : Int) ≤ x := by omega
                  have x1 : (x : Int) < D.n := by omega
                  obtain ⟨bx, Hbx⟩ : ∃ bx, Hid (R2 x = bx) := ⟨_, Lib.hid rfl⟩
                  obtain ⟨b1, f1⟩ := HK2.out.ou.at_ x hxn'
                  rw [Hbx.out] at b1
                  clear hx hxn hxr
                  cases bx with
                  | true =>
                    go_wp2_with fail
                    go_roundw
                    case rel => exact ⟨q + 1, l2, R2, by omega, by go_num, by rw [← HLN2.out]; exact (by have h := HL2.out; rw [← HLN2.out] at h; exact h), HK2.out, HW2.out.old HX.out Hbx.out, HB2⟩
                    case measure => simp [intOf]; omega
                  | false =>
                    go_upto_region 36 with fail
                    obtain ⟨w10, hw10⟩ : ∃ w10, w10 = wr.setCell ⟨bm + 1, x, none⟩ (.bool true) := ⟨_, rfl⟩
                    have HK10 : Hid (HkAt w w10 a D w.heap.size bm (bm + 1) sb D.n M (updB R2 x true)) := Lib.hid (by rw [hw10]; exact (HK2.out.tell x hxn' true).1)
                    have HL10 : Hid (LkAt w10 (bu + 1) bu D.n (.slice va ln2 vc) l2 V U) := Lib.hid (by
                      have ho := HK2.out.ord
                      have h2 := HSB.out
                      rw [hw10]
                      exact HL2.out.low (HK2.out.tell x hxn' true).2 (by omega) (by omega))
                    rw [← hw10]
                    clear hw10 b1 f1 cx hs1
                    have hrw : w10.ownsRow (bu + 1) 3 1 (.slice va ln2 vc) ln2 (natInts l2) := by have h := HL10.out.wk; rwa [HLN2.out] at h
                    have HR10 := Lib.hid hrw
                    have hbb := HB2.out
                    have hff := fls_le R D.n
                    have hbc := HB0.out
                    have hl3 := HLN2.out
                    have hl4 := HLN.out
                    have H6 : Hid (ln2 + 1 ≤ maxLen ∧ (ln2 + 1) * 8 ≤ 140737488355328 ∧ ∀ o, bu + 1 ≤ (w10.alloc o).heap.size) := Lib.hid ⟨by unfold maxLen; omega, by omega, fun o => by have := HL10.out.ul; simp; omega⟩
                    clear hrw hbb hff hbc hl3 hl4
                    go_wp2_with (first
                      | (at_builtin; refine wpList_append_own_at _ rfl _ _ 56 rfl (bu + 1) 3 ii (.int .i64 0) 1 8 Tryd.underlying56 HII.out.1 HII.out.2.1 HII.out.2.2.1 HII.out.2.2.2 rfl (by decide) _ _ _ rfl (HR10.out.alloc _) ⟨w10.heap.size, 0, none⟩ 1 1 [.int .i64 (x : Int)] rfl rfl (cell_one_new _ _ _) (int_one _) H6.out.1 H6.out.2.1 (H6.out.2.2 _) ?_; intro v' w9 hown hgrow hnil hloc; obtain ⟨va, vc, rfl⟩ := own_shape hown; have HOW := Lib.hid hown; have HGR := Lib.hid ((World.grownBy_alloc _ _ _).trans hgrow); have HLOC := Lib.hid hloc; clear hown hgrow hnil hloc))
                    have HL11 := Lib.hid (HL10.out.more (by rw [HLN2.out]; exact HOW.out) HGR.out (by
                      rcases HLOC.out with h | h
                      · exact .inl h
                      · exact .inr ⟨_, h, by simp⟩))
                    have HK11 := Lib.hid (HK10.out.up HGR.out (fun g hg => by have := (HL10.out.wk.lt g hg).1; have := HSB.out; omega))
                    go_roundw
                    case rel => exact ⟨q + 1, _, _, by omega, by go_num, HL11.out, HK11.out, HW2.out.new HX.out hxn' HXR.out, Lib.hid (by have h1 := fls_set Hbx.out D.n hxn'; have h2 := HB2.out; rw [List.length_append, List.length_singleton]; omega)⟩
                    case measure => simp [intOf]; omega
                · obtain rfl : q = L := by omega
                  have hqq : decide (q < q) = false := by simp
                  have HWe : Hid (WkOk (D.fac sn) U R2 l2) := Lib.hid (HW2.out.end HLL.out.symm)
                  have HM1 := Lib.hid (flsW_is HK.out.ou)
                  have HM2 := Lib.hid (flsW_is HK2.out.ou)
                  go_wp2_with fail
                  go_roundw
                  case rel => exact ⟨l2, R2, HL2.out, HK2.out, HWe.out, Lib.hid (by have := HB2.out; have := HB0.out; have := HLN.out; omega)⟩
                  case measure =>
                    have h1 := HM1.out
                    have h2 := HM2.out
                    have h3 := HB2.out
                    have h4 := HLN2.out
                    rw [h1, h2]
                    simp only [lenOf]
                    omega
end Go.Proofs.YtahhnfhnlffmpaaDoor
namespace Go.Proofs.YtahhnfhnlffmpaaDoor
open Go.ChangeShapes Go.WideShapes Go.ChangeAt Go.RowKit Go.Maps
set_option linter.unusedVariables false
theorem bools_congr {R R' : Nat → Bool} {n : Nat} (h : ∀ x, x < n → R x = R' x) : bools R n = bools R' n := by
  apply List.ext_getElem?
  intro j
  by_cases hj : j < n
  · rw [bools_at _ _ _ hj, bools_at _ _ _ hj, h j hj]
  · rw [List.getElem?_eq_none (by rw [bools_len]; omega), List.getElem?_eq_none (by rw [bools_len]; omega)]
/-- What was told is what reaches out. -/
def RIs (D : FD) (sn : Nat → Nat → Bool) (R : Nat → Bool) : Prop := ∀ x, x < D.n → (R x = true ↔ (D.fac sn).Reach x)
theorem hlook_is (a : Option Addr) (D : FD) (n cap : Nat) (hn : Hid (n = D.n)) (sn : Nat → Nat → Bool) (R : Nat → Bool) (hR : Hid (RIs D sn R)) (w : World) (hF : FacAt w a D) (hS : Hid (SnOk D sn)) :
    Calls Tryd.prog 91 #[.slice a n cap] w fun e w' => ∃ bm bo m M, e = .returned (.agg #[.map (some bm), .slice (some ⟨bo, 0, none⟩) n n]) ∧ SvAt w' D bm bo m M R ∧ Below w.heap.size w w' := by
  have e := hn.out
  subst e
  refine (hlook_any a D cap sn w hF hS.out).mono fun e w' ⟨bm, bo, m, M, R', he, hs, hr, hb⟩ => ⟨bm, bo, m, M, he, ⟨hs.mp, hs.mi, ?_⟩, hb⟩
  have hc : bools R' D.n = bools R D.n := bools_congr fun x hx => by
    have h1 := hr.out x hx
    have h2 := hR.out x hx
    cases h3 : R' x <;> cases h4 : R x <;> simp_all
  have ho := hs.ou
  unfold OutAt at ho ⊢
  rw [← hc]
  exact ho
/-- Which of the first m. -/
def pickTo (p : Nat → Bool) : Nat → List Nat
  | 0 => []
  | m + 1 => if p m then pickTo p m ++ [m] else pickTo p m
theorem pickTo_len (p : Nat → Bool) : ∀ m, (pickTo p m).length ≤ m
  | 0 => Nat.le_refl _
  | m + 1 => by have := pickTo_len p m; unfold pickTo; split <;> simp <;> omega
theorem pickTo_mem (p : Nat → Bool) : ∀ m x, x ∈ pickTo p m ↔ x < m ∧ p x = true
  | 0, x => by simp [pickTo]
  | m + 1, x => by
    have ih := pickTo_mem p m x
    unfold pickTo
    split
    · rename_i hp
      rw [List.mem_append, ih, List.mem_singleton]
      constructor
      · rintro (h | rfl)
        · exact ⟨by omega, h.2⟩
        · exact ⟨by omega, hp⟩
      · rintro ⟨h1, h2⟩
        by_cases e : x = m
        · exact .inr e
        · exact .inl ⟨by omega, h2⟩
    · rename_i hp
      rw [ih]
      constructor
      · rintro ⟨h1, h2⟩
        exact ⟨by omega, h2⟩
      · rintro ⟨h1, h2⟩
        by_cases e : x = m
        · rw [e] at h2; exact absurd h2 hp
        · exact ⟨by omega, h2⟩
theorem pickTo_nil {p : Nat → Bool} {m : Nat} (h : ∀ x, x < m → p x = false) : pickTo p m = [] := by
  apply List.eq_nil_iff_forall_not_mem.2
  intro x hx
  have := (pickTo_mem p m x).1 hx
  rw [h x this.1] at this
  exact absurd this.2 (by simp)
theorem pickTo_pos {p : Nat → Bool} {m x : Nat} (hx : x < m) (h : p x = true) : pickTo p m ≠ [] := by
  intro e
  have := (pickTo_mem p m x).2 ⟨hx, h⟩
  rw [e] at this
  cases this
def kcells (key : Nat → Nat → Int) (j : Nat) : List Value := [.int .i64 (key j 0), .int .i64 (key j 1), .int .i64 (key j 2), .int .i64 (key j 3), .int .u32 (key j 4)]
def keyRow (key : Nat → Nat → Int) (l : List Nat) : List Value := l.flatMap (kcells key)
theorem keyRow_snoc (key : Nat → Nat → Int) (l : List Nat) (j : Nat) : keyRow key (l ++ [j]) = keyRow key l ++ kcells key j := by simp [keyRow]
/-- A row of keys that was made here. -/
def KRow (w : World) (base : Nat) (v : Value) (l : List Nat) (key : Nat → Nat → Int) : Prop := w.ownsRow base 32 5 v l.length (keyRow key l)
theorem hinfoK : (Tryd.prog.info? 32).map (fun i => (i.zero, i.size, i.bytes)) = some (some (.agg #[.int .i64 0, .int .i64 0, .int .i64 0, .int .i64 0, .int .u32 0]), 5, 40) := by kernel_rfl
theorem five_at {l : List Value} {a b c d e : Value} (hl : l = [a, b, c, d, e]) (w : World) (T : TypeId) : ∀ j u, l[j]? = some u → (w.alloc (.cells #[a, b, c, d, e] T (0, 0))).cell? (Addr.add ⟨w.heap.size, 0, none⟩ j) = some u := by
  subst hl
  intro j u hj
  rw [Addr.add_lit, Nat.zero_add]
  simpa using hj
theorem five_one (x0 x1 x2 x3 x4 : Int) : ∀ u ∈ [Value.int .i64 x0, .int .i64 x1, .int .i64 x2, .int .i64 x3, .int .u32 x4], u.oneCell' = true := by
  intro u hu
  simp at hu
  rcases hu with rfl | rfl | rfl | rfl | rfl <;> rfl
theorem cell_lay2 {w : World} {b j : Nat} {v : Value} (h : w.cell? ⟨b, j, none⟩ = some v) {w' : World} (hb : Below w.heap.size w w') : w'.cell? ⟨b, j, none⟩ = some v := by
  have hl : b < w.heap.size := by
    rcases Nat.lt_or_ge b w.heap.size with h' | h'
    · exact h'
    · simp [World.cell?, Array.getElem?_eq_none h'] at h
  exact (hb.cell (p := ⟨b, j, none⟩) hl).trans h
theorem SvAt.up {w w' : World} {D : FD} {bm bo m : Nat} {M : DataW Unit} {R : Nat → Bool} (h : SvAt w D bm bo m M R) {row : Option Nat} (hg : w.grownBy w' row) (h1 : some bm ≠ row) (h2 : some bo ≠ row) : SvAt w' D bm bo m M R :=
  ⟨h.mp.kept hg h1, h.mi, World.ownsRow.kept h.ou hg (.inr h2)⟩
set_option maxRecDepth 100000 in
set_option maxHeartbeats 4000000 in
theorem hof_is (a : Option Addr) (D : FD) (n cap : Nat) (hn : Hid (n = D.n)) (sn : Nat → Nat → Bool) (R : Nat → Bool) (hR : Hid (RIs D sn R)) (xi xv : Int) (xs : Bool) (pa : Option Addr) (ct cp : Nat) (key : Nat → Nat → Int) (sn2 : Nat → Bool) (h64 : ct ≤ 64)
    (hS2 : Hid (∀ j, j < ct → Sens (key j 0) (key j 1) (key j 2) (key j 3) (key j 4) (sn2 j))) (p : Nat → Bool) (hp : Hid (∀ j, j < ct → holeB D R (sn2 j) (key j 0) (key j 1) (key j 2) = p j)) (w : World) (hF : FacAt w a D) (hK : KysAt w pa ct key) (hS : Hid (SnOk D sn)) :
    Calls Tryd.prog 76 #[.agg #[.int .i64 xi, .int .i64 xv, .bool xs, .slice pa ct cp], .slice a n cap] w fun e w' => ∃ v, e = .returned v ∧ KRow w' w.heap.size v (pickTo p ct) key ∧ Below w.heap.size w w' := by
  have HF : Hid (∀ o, FacAt (w.alloc o) a D) := Lib.hid fun o => hF.below ((Below.refl _ _).alloc (Nat.le_refl _) _)
  have HKy := Lib.hid hK
  obtain ⟨ik, hi1, hi2, hi3, hi4⟩ := info_parts hinfoK
  have HIK := Lib.hid (⟨hi1, hi2, hi3, hi4⟩ : Tryd.prog.info? 32 = some ik ∧ ik.zero = some (.agg #[.int .i64 0, .int .i64 0, .int .i64 0, .int .i64 0, .int .u32 0]) ∧ ik.size = 5 ∧ ik.bytes = 40)
  clear hi1 hi2 hi3 hi4 hF hK
  go_enter Tryd.func76, Tryd.ntmps76
  go_upto_region 3 with (first
    | (go_at_call 91; (with_reducible refine (hlook_is a D n cap hn sn R hR _ (HF.out _) hS).mono ?_); rintro e w1 ⟨bm, bo, m, M, rfl, hs, hb⟩; have HS1 := Lib.hid hs; have HB1 := Lib.hid hb; clear hs hb))
  obtain ⟨w2, hw2⟩ : ∃ w2, w2 = w1.alloc (.cells #[.map (some bm), .slice (some ⟨bo, 0, none⟩) n n] 166) := ⟨_, rfl⟩
  obtain ⟨sb, hsb⟩ : ∃ sb, sb = w1.heap.size := ⟨_, rfl⟩
  have HB2 : Hid (Below w.heap.size w w2) := Lib.hid (by rw [hw2]; have h1 := HB1.out; exact ((Below.trans ((Below.refl _ _).alloc (Nat.le_refl _) _) (h1.mono (by simp))).alloc (by have := h1.size; simp at this; omega) _))
  have HS2 : Hid (SvAt w2 D bm bo m M R) := Lib.hid (by rw [hw2]; exact HS1.out.below ((Below.refl _ _).alloc (Nat.le_refl _) _))
  have HSB : Hid (w2.heap[sb]? = some (.cells #[.map (some bm), .slice (some ⟨bo, 0, none⟩) n n] 166 (0, 0)) ∧ w.heap.size < sb ∧ sb < w2.heap.size ∧ bm < sb ∧ bo < sb) := Lib.hid (by rw [hw2, hsb]; have h1 := HB1.out.size; simp at h1; exact ⟨heap_alloc_new _ _, by omega, by simp, HS1.out.mp.lt, HS1.out.ou.lt⟩)
  have g3 : w2.cell? ⟨w.heap.size, 3, none⟩ = some (.slice pa ct cp) := by
    rw [hw2]
    refine cell_lay (cell_lay2 (w := w.alloc (.cells #[.int .i64 xi, .int .i64 xv, .bool xs, .slice pa ct cp] 110 (0, 0))) ?_ HB1.out) _
    simp
  rw [← hw2, ← hsb]
  clear hw2 hsb HS1 HB1
  go_wp2_with fail
  clear g3
  go_loopw [14, 6] (fun z v wr => ∃ q : Nat, q ≤ ct ∧ z = .int .i64 q ∧ KRow wr (sb + 1) v (pickTo p q) key ∧ SvAt wr D bm bo m M R ∧ wr.heap[sb]? = some (.cells #[.map (some bm), .slice (some ⟨bo, 0, none⟩) n n] 166 (0, 0)) ∧ Below w.heap.size w wr) (fun z _ _ => ct - (intOf z).toNat)
  case atStart => exact ⟨0, by omega, rfl, World.ownsRow_nil _ _ _ _, HS2.out, HSB.out.1, HB2.out⟩
  case round =>
    obtain ⟨q, hq, rfl, hrow, hs, hsb, hb⟩ := hrel
    have HRow := Lib.hid hrow
    have HS3 := Lib.hid hs
    have HSb3 := Lib.hid hsb
    have HB3 := Lib.hid hb
    have hsl : sb < wr.heap.size := lt_of_block' hsb
    have HSL := Lib.hid hsl
    clear hrow hs hsb hb hsl
    by_cases hlt : q < ct
    · obtain ⟨pd, rfl, hbl, hin, hw1, hw2⟩ := HKy.out q hlt
      have hin2 := hin.below HB3.out hbl
      have HT : Hid (holeB D R (sn2 q) (key q 0) (key q 1) (key q 2) = p q) := Lib.hid (hp.out q hlt)
      have HSn : Hid (Sens (key q 0) (key q 1) (key q 2) (key q 3) (key q 4) (sn2 q)) := Lib.hid (hS2.out q hlt)
      obtain ⟨tt, Htt⟩ : ∃ tt, Hid (p q = tt) := ⟨_, Lib.hid rfl⟩
      have HKC : Hid (kcells key q = [.int .i64 (key q 0), .int .i64 (key q 1), .int .i64 (key q 2), .int .i64 (key q 3), .int .u32 (key q 4)]) := Lib.hid rfl
      obtain ⟨k0, Hk0⟩ : ∃ k0, Hid (key q 0 = k0) := ⟨_, Lib.hid rfl⟩
      obtain ⟨k1, Hk1⟩ : ∃ k1, Hid (key q 1 = k1) := ⟨_, Lib.hid rfl⟩
      obtain ⟨k2, Hk2⟩ : ∃ k2, Hid (key q 2 = k2) := ⟨_, Lib.hid rfl⟩
      obtain ⟨k3, Hk3⟩ : ∃ k3, Hid (key q 3 = k3) := ⟨_, Lib.hid rfl⟩
      obtain ⟨k4, Hk4⟩ : ∃ k4, Hid (key q 4 = k4) := ⟨_, Lib.hid rfl⟩
      rw [Hk0.out, Hk1.out, Hk2.out, Hk3.out, Hk4.out] at hin2 HSn HKC
      rw [Hk0.out, Hk1.out, Hk2.out, Htt.out] at HT
      rw [Hk1.out] at hw1
      rw [Hk2.out] at hw2
      have HW := Lib.hid (⟨hw1, hw2⟩ : wfH k1 ∧ wfH k2)
      obtain ⟨i0, i1, i2, i3, i4⟩ := hin2
      have q0 : (0 : Int) ≤ q := by omega
      have q1 : (q : Int) < ct := by omega
      have hs0 : wr.cell? ⟨sb, 0, none⟩ = some (.map (some bm)) := by simp [World.cell?, HSb3.out]
      have hs1 : wr.cell? ⟨sb, 1, none⟩ = some (.slice (some ⟨bo, 0, none⟩) n n) := by simp [World.cell?, HSb3.out]
      have s0 : ∀ o, (wr.alloc o).cell? ⟨sb, 0, none⟩ = some (.map (some bm)) := fun o => cell_lay hs0 o
      have s1 : ∀ o, (wr.alloc o).cell? ⟨sb, 1, none⟩ = some (.slice (some ⟨bo, 0, none⟩) n n) := fun o => cell_lay hs1 o
      have hnn := hn.out
      subst hnn
      clear hs0 hs1 hw1 hw2 hin hbl
      have hpl := pickTo_len p q
      obtain ⟨ln, hln⟩ : ∃ ln, (pickTo p q).length = ln := ⟨_, rfl⟩
      have H6 : Hid (ln + 1 ≤ maxLen ∧ (ln + 1) * 40 ≤ 140737488355328) := Lib.hid ⟨by unfold maxLen; omega, by omega⟩
      have HRow2 : Hid (wr.ownsRow (sb + 1) 32 5 u6 ln (keyRow key (pickTo p q))) := Lib.hid (by have h := HRow.out; unfold KRow at h; rwa [hln] at h)
      have HLN := Lib.hid hln
      clear hpl hln
      cases tt with
      | false =>
        go_wp2_with (first
          | (go_at_call 92; (with_reducible refine (hishole_any k0 k1 k2 k3 k4 D bm bo m M R _ false HT HW.out.1 HW.out.2 HSn.out _ (HS3.out.below ((Below.refl _ _).alloc (Nat.le_refl _) _))).mono ?_); rintro e w3 ⟨rfl, hb⟩; have HB4 : Hid (Below wr.heap.size wr w3) := Lib.hid (Below.trans ((Below.refl _ _).alloc (Nat.le_refl _) _) (hb.mono (by simp))); clear hb))
        go_roundw
        case rel => exact ⟨q + 1, by omega, by go_num, by unfold pickTo; rw [Htt.out]; exact rowbelow HRow.out HB4.out, HS3.out.below HB4.out, (HB4.out.block sb HSL.out).trans HSb3.out, HB3.out.trans (HB4.out.mono HB3.out.size)⟩
        case measure => simp [intOf]; omega
      | true =>
        go_wp2_with (first
          | (go_at_call 92; (with_reducible refine (hishole_any k0 k1 k2 k3 k4 D bm bo m M R _ true HT HW.out.1 HW.out.2 HSn.out _ (HS3.out.below ((Below.refl _ _).alloc (Nat.le_refl _) _))).mono ?_); rintro e w3 ⟨rfl, hb⟩; obtain ⟨hc, hf⟩ := bcell hb; have HB4 : Hid (Below wr.heap.size wr w3) := Lib.hid (Below.trans ((Below.refl _ _).alloc (Nat.le_refl _) _) (hb.mono (by simp))); have HR3 := Lib.hid (rowbelow HRow2.out HB4.out); have HBs : Hid (∀ o, sb + 1 ≤ (w3.alloc o).heap.size) := Lib.hid (fun o => by have := HB4.out.size; have := HSL.out; simp; omega); clear hb)
          | (at_builtin; refine wpList_append_own_at _ rfl _ _ 35 rfl (sb + 1) 32 ik (.agg #[.int .i64 0, .int .i64 0, .int .i64 0, .int .i64 0, .int .u32 0]) 5 40 Tryd.underlying35 HIK.out.1 HIK.out.2.1 HIK.out.2.2.1 HIK.out.2.2.2 rfl (by decide) _ _ _ rfl (HR3.out.alloc _) ⟨w3.heap.size, 0, none⟩ 1 1 [.int .i64 k0, .int .i64 k1, .int .i64 k2, .int .i64 k3, .int .u32 k4] rfl rfl (five_at rfl _ _) (five_one _ _ _ _ _) H6.out.1 H6.out.2 (HBs.out _) ?_; intro v' w9 hown hgrow hnil hloc; have HOW := Lib.hid hown; have HGR := Lib.hid ((World.grownBy_alloc _ _ _).trans hgrow); clear hown hgrow hnil hloc hc hf))
        have hgl : ∀ g, u6.ownBlock = some g → sb + 1 ≤ g := fun g hg => (HRow2.out.lt g hg).1
        go_roundw
        case rel =>
          have hq2 := HSB.out.2
          have ho : ∀ k, k ≤ sb → some k ≠ u6.ownBlock := fun k hk e => by have := hgl k e.symm; omega
          refine ⟨q + 1, by omega, by go_num, ?_, (HS3.out.below HB4.out).up HGR.out (ho bm (by omega)) (ho bo (by omega)), (HGR.out.block sb (Nat.lt_of_lt_of_le HSL.out HB4.out.size) (ho sb (Nat.le_refl _))).trans ((HB4.out.block sb HSL.out).trans HSb3.out), (HB3.out.trans (HB4.out.mono HB3.out.size)).grown HGR.out (Nat.le_trans HB3.out.size HB4.out.size) (fun g hg => by have := hgl g hg; omega)⟩
          unfold pickTo KRow
          rw [Htt.out, if_pos rfl, List.length_append, List.length_singleton, HLN.out, keyRow_snoc, HKC.out]
          exact HOW.out
        case measure => simp [intOf]; omega
    · obtain rfl : q = ct := by omega
      have hqq : decide (q < q) = false := by simp
      go_wp2_with fail
      go_ret
      refine ⟨_, rfl, ?_, HB3.out⟩
      have hr := HRow.out
      refine ⟨hr.1, ?_⟩
      rcases hr.2 with h | ⟨g, cap', cur, e, hB, rest⟩
      · exact .inl h
      · exact .inr ⟨g, cap', cur, e, by have := HSB.out.2; omega, rest⟩
theorem hof_empty {w : World} {base : Nat} {v : Value} {l : List Nat} {key : Nat → Nat → Int} (h : KRow w base v l key) : ∃ a c, v = .slice a l.length c := own_shape h
end Go.Proofs.YtahhnfhnlffmpaaDoor
