/-
  Less, Orders, RightMath, Ref7 as one.
-/
import Derived.Test.YtkhgnmgcdgjncaaDoorRightFns
import Derived.Test.YtkhgnmgcdgjncaaDoorValidZ
namespace Go.Proofs.YtkhgnmgcdgjncaaDoor
open Go.ChangeShapes Go.WideShapes Go.ChangeAt Go.RowKit
set_option linter.unusedVariables false
/-- Rights taken away, one by one; other numbers do nothing. -/
def lessOne (r x : Int) : Int := if x = 1 ∨ x = 2 ∨ x = 4 then bits BinOp.or IntKind.i64 r x else r
def lessR (r : Int) (l : List Int) : Int := l.foldl lessOne r
theorem lessR_snoc (r : Int) (l : List Int) (x : Int) : lessR r (l ++ [x]) = lessOne (lessR r l) x := by simp [lessR, List.foldl_append]
theorem take_snoc (xs : List Int) (k : Nat) (h : k < xs.length) : xs.take (k + 1) = xs.take k ++ [xs.getD k 0] := by
  rw [List.take_succ_eq_append_getElem h]; simp [List.getD, h]

/-- A slice of numbers whose elements are xs. -/
structure RowI (w : World) (a : Option Addr) (len : Nat) (xs : List Int) : Prop where
  len_eq : xs.length = len
  cells : len = 0 ∨ ∃ b off, a = some ⟨b, off, none⟩ ∧ b < w.heap.size ∧ ∀ i, i < len → w.cell? ⟨b, off + i, none⟩ = some (.int .i64 (xs.getD i 0))

/-- The worlds within Less: the key's box, the answer's place. -/
structure LRs (w wr : World) (k0 k1 k2 R k4 : Int) : Prop where
  bel : Below w.heap.size w wr
  size : w.heap.size + 1 < wr.heap.size
  box : wr.cell? ⟨w.heap.size, 0, none⟩ = some (.int .i64 k0) ∧ wr.cell? ⟨w.heap.size, 1, none⟩ = some (.int .i64 k1) ∧ wr.cell? ⟨w.heap.size, 2, none⟩ = some (.int .i64 k2) ∧ wr.cell? ⟨w.heap.size, 3, none⟩ = some (.int .i64 R) ∧ wr.cell? ⟨w.heap.size, 4, none⟩ = some (.int .u32 k4)
  out : ∀ i, i < 5 → ∃ v, wr.cell? ⟨w.heap.size + 1, i, none⟩ = some v
  fr : ∀ i, wr.frozen? ⟨w.heap.size, i, none⟩ = false
  fr1 : ∀ i, wr.frozen? ⟨w.heap.size + 1, i, none⟩ = false
theorem LRs.start (w w1 : World) (k0 k1 k2 k3 k4 : Int)
    (hb : Below ((w.alloc (.cells #[.int .i64 k0, .int .i64 k1, .int .i64 k2, .int .i64 k3, .int .u32 k4] 25)).alloc (.cells #[.int .i64 0, .int .i64 0, .int .i64 0, .int .i64 0, .int .u32 0] 25)).heap.size ((w.alloc (.cells #[.int .i64 k0, .int .i64 k1, .int .i64 k2, .int .i64 k3, .int .u32 k4] 25)).alloc (.cells #[.int .i64 0, .int .i64 0, .int .i64 0, .int .i64 0, .int .u32 0] 25)) w1) : LRs w w1 k0 k1 k2 k3 k4 := by
  have hc := (bcell hb).1
  have hf := (bcell hb).2
  have hz := hb.size
  simp at hz
  refine ⟨Below.trans (((Below.refl _ _).alloc (Nat.le_refl _) _).alloc (by simp) _) (hb.mono (by simp; omega)), by omega, ?_, fun i hi => ?_, fun i => ?_, fun i => ?_⟩
  · refine ⟨?_, ?_, ?_, ?_, ?_⟩ <;> (rw [hc _ _ (by simp; omega)]; simp)
  · rw [hc _ _ (by simp)]
    match i, hi with
    | 0, _ => exact ⟨_, by simp; rfl⟩
    | 1, _ => exact ⟨_, by simp; rfl⟩
    | 2, _ => exact ⟨_, by simp; rfl⟩
    | 3, _ => exact ⟨_, by simp; rfl⟩
    | 4, _ => exact ⟨_, by simp; rfl⟩
  · rw [hf _ _ (by simp; omega)]; simp
  · rw [hf _ _ (by simp)]; simp
theorem LRs.set {w wr : World} {k0 k1 k2 R k4 : Int} (h : LRs w wr k0 k1 k2 R k4) (x : Int) : LRs w (wr.setCell ⟨w.heap.size, 3, none⟩ (.int .i64 x)) k0 k1 k2 x k4 := by
  obtain ⟨h1, h2, ⟨a0, a1, a2, a3, a4⟩, h4, h5, h6⟩ := h
  refine ⟨h1.setCell (by simp) _, by simpa [World.setCell] using h2, ?_, fun i hi => ?_, fun i => ?_, fun i => ?_⟩
  · refine ⟨?_, ?_, ?_, ?_, ?_⟩
    · rw [World.cell?_setCell_other _ _ _ _ (by simp)]; exact a0
    · rw [World.cell?_setCell_other _ _ _ _ (by simp)]; exact a1
    · rw [World.cell?_setCell_other _ _ _ _ (by simp)]; exact a2
    · exact World.cell?_setCell_same wr _ _ a3
    · rw [World.cell?_setCell_other _ _ _ _ (by simp)]; exact a4
  · rw [World.cell?_setCell_other _ _ _ _ (by simp)]; exact h4 i hi
  · rw [World.frozen?_setCell]; exact h5 i
  · rw [World.frozen?_setCell]; exact h6 i
def lessK (k0 k3 : Int) (l : List Int) : Int := if k0 = 2 ∨ k0 = 3 then lessR k3 l else k3
theorem RowI.new3 (W : World) (p q r : Int) : RowI (W.alloc (.cells #[.int .i64 p, .int .i64 q, .int .i64 r] 3)) (some ⟨W.heap.size, 0, none⟩) 3 [p, q, r] := by
  refine ⟨rfl, .inr ⟨W.heap.size, 0, rfl, by simp, fun i hi => ?_⟩⟩
  match i, hi with
  | 0, _ => simp
  | 1, _ => simp
  | 2, _ => simp
end Go.Proofs.YtkhgnmgcdgjncaaDoor
namespace Go.Proofs.YtkhgnmgcdgjncaaDoor
open Go.ChangeShapes Go.WideShapes Go.ChangeAt Go.RowKit
set_option linter.unusedVariables false
theorem keep5 {W w' : World} {b : Nat} {k0 k1 k2 k3 k4 : Int} (h : b < W.heap.size ∧ W.cell? ⟨b, 0, none⟩ = some (.int .i64 k0) ∧ W.cell? ⟨b, 1, none⟩ = some (.int .i64 k1) ∧ W.cell? ⟨b, 2, none⟩ = some (.int .i64 k2) ∧ W.cell? ⟨b, 3, none⟩ = some (.int .i64 k3) ∧ W.cell? ⟨b, 4, none⟩ = some (.int .u32 k4)) (hb : Below W.heap.size W w') : b < w'.heap.size ∧ w'.cell? ⟨b, 0, none⟩ = some (.int .i64 k0) ∧ w'.cell? ⟨b, 1, none⟩ = some (.int .i64 k1) ∧ w'.cell? ⟨b, 2, none⟩ = some (.int .i64 k2) ∧ w'.cell? ⟨b, 3, none⟩ = some (.int .i64 k3) ∧ w'.cell? ⟨b, 4, none⟩ = some (.int .u32 k4) := by
  obtain ⟨h2, h3, h4, h5, h6, h7⟩ := h
  have hc := (bcell hb).1
  have hz := hb.size
  exact ⟨by omega, by rw [hc _ _ h2]; exact h3, by rw [hc _ _ h2]; exact h4, by rw [hc _ _ h2]; exact h5, by rw [hc _ _ h2]; exact h6, by rw [hc _ _ h2]; exact h7⟩
theorem keep5_alloc {W : World} {b : Nat} {k0 k1 k2 k3 k4 : Int} (h : b < W.heap.size ∧ W.cell? ⟨b, 0, none⟩ = some (.int .i64 k0) ∧ W.cell? ⟨b, 1, none⟩ = some (.int .i64 k1) ∧ W.cell? ⟨b, 2, none⟩ = some (.int .i64 k2) ∧ W.cell? ⟨b, 3, none⟩ = some (.int .i64 k3) ∧ W.cell? ⟨b, 4, none⟩ = some (.int .u32 k4)) (o : Obj) : b < (W.alloc o).heap.size ∧ (W.alloc o).cell? ⟨b, 0, none⟩ = some (.int .i64 k0) ∧ (W.alloc o).cell? ⟨b, 1, none⟩ = some (.int .i64 k1) ∧ (W.alloc o).cell? ⟨b, 2, none⟩ = some (.int .i64 k2) ∧ (W.alloc o).cell? ⟨b, 3, none⟩ = some (.int .i64 k3) ∧ (W.alloc o).cell? ⟨b, 4, none⟩ = some (.int .u32 k4) := by
  refine keep5 h ?_
  exact (Below.refl _ _).alloc (Nat.le_refl _) _
theorem new5 (W : World) (k0 k1 k2 k3 k4 : Int) : W.heap.size < (W.alloc (.cells #[.int .i64 k0, .int .i64 k1, .int .i64 k2, .int .i64 k3, .int .u32 k4] 25)).heap.size ∧ (W.alloc (.cells #[.int .i64 k0, .int .i64 k1, .int .i64 k2, .int .i64 k3, .int .u32 k4] 25)).cell? ⟨W.heap.size, 0, none⟩ = some (.int .i64 k0) ∧ (W.alloc (.cells #[.int .i64 k0, .int .i64 k1, .int .i64 k2, .int .i64 k3, .int .u32 k4] 25)).cell? ⟨W.heap.size, 1, none⟩ = some (.int .i64 k1) ∧ (W.alloc (.cells #[.int .i64 k0, .int .i64 k1, .int .i64 k2, .int .i64 k3, .int .u32 k4] 25)).cell? ⟨W.heap.size, 2, none⟩ = some (.int .i64 k2) ∧ (W.alloc (.cells #[.int .i64 k0, .int .i64 k1, .int .i64 k2, .int .i64 k3, .int .u32 k4] 25)).cell? ⟨W.heap.size, 3, none⟩ = some (.int .i64 k3) ∧ (W.alloc (.cells #[.int .i64 k0, .int .i64 k1, .int .i64 k2, .int .i64 k3, .int .u32 k4] 25)).cell? ⟨W.heap.size, 4, none⟩ = some (.int .u32 k4) := by
  refine ⟨by simp, by simp, by simp, by simp, by simp, by simp⟩
theorem keepT {w W w' : World} {bx bx' bz : Nat} {k0 k1 k2 k3 k4 x y z : Int} (h : (w.heap.size < W.heap.size ∧ W.cell? ⟨w.heap.size, 0, none⟩ = some (.int .i64 k0) ∧ W.cell? ⟨w.heap.size, 1, none⟩ = some (.int .i64 k1) ∧ W.cell? ⟨w.heap.size, 2, none⟩ = some (.int .i64 k2) ∧ W.cell? ⟨w.heap.size, 3, none⟩ = some (.int .i64 k3) ∧ W.cell? ⟨w.heap.size, 4, none⟩ = some (.int .u32 k4)) ∧ (bx < W.heap.size ∧ W.cell? ⟨bx, 0, none⟩ = some (.int .i64 k0) ∧ W.cell? ⟨bx, 1, none⟩ = some (.int .i64 k1) ∧ W.cell? ⟨bx, 2, none⟩ = some (.int .i64 k2) ∧ W.cell? ⟨bx, 3, none⟩ = some (.int .i64 x) ∧ W.cell? ⟨bx, 4, none⟩ = some (.int .u32 k4)) ∧ (bx' < W.heap.size ∧ W.cell? ⟨bx', 0, none⟩ = some (.int .i64 k0) ∧ W.cell? ⟨bx', 1, none⟩ = some (.int .i64 k1) ∧ W.cell? ⟨bx', 2, none⟩ = some (.int .i64 k2) ∧ W.cell? ⟨bx', 3, none⟩ = some (.int .i64 y) ∧ W.cell? ⟨bx', 4, none⟩ = some (.int .u32 k4)) ∧ (bz < W.heap.size ∧ W.cell? ⟨bz, 0, none⟩ = some (.int .i64 k0) ∧ W.cell? ⟨bz, 1, none⟩ = some (.int .i64 k1) ∧ W.cell? ⟨bz, 2, none⟩ = some (.int .i64 k2) ∧ W.cell? ⟨bz, 3, none⟩ = some (.int .i64 z) ∧ W.cell? ⟨bz, 4, none⟩ = some (.int .u32 k4))) (hb : Below W.heap.size W w') : (w.heap.size < w'.heap.size ∧ w'.cell? ⟨w.heap.size, 0, none⟩ = some (.int .i64 k0) ∧ w'.cell? ⟨w.heap.size, 1, none⟩ = some (.int .i64 k1) ∧ w'.cell? ⟨w.heap.size, 2, none⟩ = some (.int .i64 k2) ∧ w'.cell? ⟨w.heap.size, 3, none⟩ = some (.int .i64 k3) ∧ w'.cell? ⟨w.heap.size, 4, none⟩ = some (.int .u32 k4)) ∧ (bx < w'.heap.size ∧ w'.cell? ⟨bx, 0, none⟩ = some (.int .i64 k0) ∧ w'.cell? ⟨bx, 1, none⟩ = some (.int .i64 k1) ∧ w'.cell? ⟨bx, 2, none⟩ = some (.int .i64 k2) ∧ w'.cell? ⟨bx, 3, none⟩ = some (.int .i64 x) ∧ w'.cell? ⟨bx, 4, none⟩ = some (.int .u32 k4)) ∧ (bx' < w'.heap.size ∧ w'.cell? ⟨bx', 0, none⟩ = some (.int .i64 k0) ∧ w'.cell? ⟨bx', 1, none⟩ = some (.int .i64 k1) ∧ w'.cell? ⟨bx', 2, none⟩ = some (.int .i64 k2) ∧ w'.cell? ⟨bx', 3, none⟩ = some (.int .i64 y) ∧ w'.cell? ⟨bx', 4, none⟩ = some (.int .u32 k4)) ∧ (bz < w'.heap.size ∧ w'.cell? ⟨bz, 0, none⟩ = some (.int .i64 k0) ∧ w'.cell? ⟨bz, 1, none⟩ = some (.int .i64 k1) ∧ w'.cell? ⟨bz, 2, none⟩ = some (.int .i64 k2) ∧ w'.cell? ⟨bz, 3, none⟩ = some (.int .i64 z) ∧ w'.cell? ⟨bz, 4, none⟩ = some (.int .u32 k4)) :=
  ⟨keep5 h.1 hb, keep5 h.2.1 hb, keep5 h.2.2.1 hb, keep5 h.2.2.2 hb⟩
end Go.Proofs.YtkhgnmgcdgjncaaDoor
namespace Go.Proofs.YtkhgnmgcdgjncaaDoor
open Go.ChangeShapes Go.WideShapes Go.ChangeAt Go.RowKit
set_option linter.unusedVariables false
def andI (a b : Int) : Int := bits BinOp.and IntKind.i64 a b
def orI (a b : Int) : Int := bits BinOp.or IntKind.i64 a b
theorem and8 (n m : Nat) (hm : m < 8) : n &&& m = (n % 8) &&& m := by
  have h1 : (n &&& m) < 8 := Nat.lt_of_le_of_lt Nat.and_le_right hm
  have h2 : (n &&& m) % 2 ^ 3 = (n % 2 ^ 3) &&& (m % 2 ^ 3) := Nat.and_mod_two_pow
  have e1 : (n &&& m) % 8 = n &&& m := Nat.mod_eq_of_lt h1
  have e2 : m % 8 = m := Nat.mod_eq_of_lt hm
  have h3 : (n &&& m) % 8 = (n % 8) &&& (m % 8) := h2
  rw [e1, e2] at h3
  exact h3
theorem and_fin : ∀ n : Fin 8, ∀ i : Fin 3, IntKind.i64.wrap ((n.val &&& 2 ^ i.val : Nat) : Int) = 0 ∨ IntKind.i64.wrap ((n.val &&& 2 ^ i.val : Nat) : Int) = ((2 ^ i.val : Nat) : Int) := by decide +kernel
theorem and_pow (a : Int) (i : Nat) (hi : i < 3) : andI a ((2 ^ i : Nat) : Int) = 0 ∨ andI a ((2 ^ i : Nat) : Int) = ((2 ^ i : Nat) : Int) := by
  have e : andI a ((2 ^ i : Nat) : Int) = IntKind.i64.wrap (((BitVec.ofInt 64 a).toNat &&& 2 ^ i : Nat) : Int) := by
    show IntKind.i64.wrap ((BitVec.ofInt 64 a &&& BitVec.ofInt 64 ((2 ^ i : Nat) : Int)).toNat : Int) = _
    rw [BitVec.toNat_and, BitVec.ofInt_natCast, BitVec.toNat_ofNat, Nat.mod_eq_of_lt (a := 2 ^ i)]
    exact Nat.pow_lt_pow_right (by decide) (by omega)
  have h8 : 2 ^ i < 8 := Nat.pow_lt_pow_right (m := i) (n := 3) (by decide) hi
  rw [e, and8 _ _ h8]
  exact and_fin ⟨(BitVec.ofInt 64 a).toNat % 8, Nat.mod_lt _ (by decide)⟩ ⟨i, hi⟩
theorem and1 (a : Int) : andI a 1 = 0 ∨ andI a 1 = 1 := and_pow a 0 (by decide)
theorem and2 (a : Int) : andI a 2 = 0 ∨ andI a 2 = 2 := and_pow a 1 (by decide)
theorem and4 (a : Int) : andI a 4 = 0 ∨ andI a 4 = 4 := and_pow a 2 (by decide)
def In8 (x : Int) : Prop := 0 ≤ x ∧ x ≤ 7
theorem In8.fin {x : Int} (h : In8 x) : ∃ n : Fin 8, x = (n.val : Int) := by obtain ⟨h1, h2⟩ := h; exact ⟨⟨x.toNat, by omega⟩, by simp; omega⟩
theorem In8.of (n : Fin 8) : In8 (n.val : Int) := ⟨by omega, by have := n.isLt; omega⟩
theorem or_fin : ∀ n : Fin 8, ∀ m : Fin 3, ∃ r : Fin 8, orI (n.val : Int) ((2 ^ m.val : Nat) : Int) = (r.val : Int) ∧ ∀ q : Fin 8, (andI (n.val : Int) (q.val : Int) == (q.val : Int)) = true → (andI (r.val : Int) (q.val : Int) == (q.val : Int)) = true := by decide +kernel
theorem self_fin : ∀ n : Fin 8, (andI (n.val : Int) (n.val : Int) == (n.val : Int)) = true := by decide +kernel
theorem trans_fin : ∀ x y z : Fin 8, (andI (x.val : Int) (y.val : Int) == (y.val : Int)) = true → (andI (y.val : Int) (z.val : Int) == (z.val : Int)) = true → (andI (x.val : Int) (z.val : Int) == (z.val : Int)) = true := by decide +kernel
theorem both_fin : ∀ x y : Fin 8, ((andI (x.val : Int) (y.val : Int) == (y.val : Int)) && (andI (y.val : Int) (x.val : Int) == (x.val : Int))) = ((x.val : Int) == (y.val : Int)) := by decide +kernel
/-- One right less: within 0 to 7, and what was lacked before is lacked still. -/
theorem lessOne_in (n : Int) (hn : In8 n) (x : Int) (hx : x = 0 ∨ x = 1 ∨ x = 2 ∨ x = 4) : In8 (lessOne n x) ∧ ∀ q, In8 q → (andI n q == q) = true → (andI (lessOne n x) q == q) = true := by
  obtain ⟨n, rfl⟩ := hn.fin
  rcases hx with rfl | hx
  · exact ⟨hn, fun q _ h => h⟩
  · have hm : ∃ m : Fin 3, x = ((2 ^ m.val : Nat) : Int) := by rcases hx with rfl | rfl | rfl; exact ⟨0, rfl⟩; exact ⟨1, rfl⟩; exact ⟨2, rfl⟩
    have e : lessOne (n.val : Int) x = orI (n.val : Int) x := if_pos hx
    obtain ⟨m, rfl⟩ := hm
    obtain ⟨r, hr, hq⟩ := or_fin n m
    rw [e, hr]
    exact ⟨In8.of r, fun q h8 h => by obtain ⟨q, rfl⟩ := h8.fin; exact hq q h⟩
theorem lessK_in (k0 k3 a b c : Int) (h3 : In8 k3) (ha : a = 0 ∨ a = 1 ∨ a = 2 ∨ a = 4) (hb : b = 0 ∨ b = 1 ∨ b = 2 ∨ b = 4) (hc : c = 0 ∨ c = 1 ∨ c = 2 ∨ c = 4) : In8 (lessK k0 k3 [a, b, c]) ∧ (andI (lessK k0 k3 [a, b, c]) k3 == k3) = true := by
  have hs : (andI k3 k3 == k3) = true := by obtain ⟨n, rfl⟩ := h3.fin; exact self_fin n
  unfold lessK
  split
  · have h1 := lessOne_in k3 h3 a ha
    have h2 := lessOne_in _ h1.1 b hb
    have h4 := lessOne_in _ h2.1 c hc
    exact ⟨h4.1, h4.2 _ h3 (h2.2 _ h3 (h1.2 _ h3 hs))⟩
  · exact ⟨h3, hs⟩
theorem rights_in (k0 k1 k2 k3 k4 : Int) (h : codeOf k0 k1 k2 k3 k4 = 0) : In8 k3 := by
  unfold codeOf at h
  by_cases h1 : k0 < 0 ∨ 14 < k0
  · rw [if_pos h1] at h; omega
  rw [if_neg h1] at h
  by_cases h2 : InB k0 k1 k2 k3 k4
  · unfold InB at h2
    have : rightsOf k0 ≤ 7 := by unfold rightsOf; split <;> omega
    exact ⟨h2.2.2.2.2.1, by omega⟩
  · rw [if_neg h2] at h; omega
theorem fits32 {a : Int} (h : (Lit.int .u32 a).wf = true) : a ≤ 4294967295 := by
  have h : 0 ≤ a ∧ a ≤ 4294967295 := by simpa [Lit.wf, IntKind.min, IntKind.max, IntKind.signed, IntKind.bits] using h
  exact h.2
theorem code_cases (k0 k1 k2 k3 k4 : Int) : codeOf k0 k1 k2 k3 k4 = 0 ∨ codeOf k0 k1 k2 k3 k4 = 102 ∨ codeOf k0 k1 k2 k3 k4 = 103 := by
  unfold codeOf; split
  · exact .inr (.inl rfl)
  · split
    · exact .inl rfl
    · exact .inr (.inr rfl)
end Go.Proofs.YtkhgnmgcdgjncaaDoor
namespace Go.Proofs.YtkhgnmgcdgjncaaDoor
open Go.ChangeShapes Go.WideShapes Go.ChangeAt Go.RowKit
set_option linter.unusedVariables false
theorem rweaken_mem (k0 k1 k2 k3 k4 : Int) (r3 : Int) (h : k0 = 2 ∨ k0 = 3) (h3 : Hid (bits BinOp.or IntKind.i64 (bits BinOp.or IntKind.i64 k3 1) 4 = r3)) (w : World) :
    Calls Tryd.prog 39 #[(Value.agg #[.int .i64 k0, .int .i64 k1, .int .i64 k2, .int .i64 k3, .int .u32 k4])] w
      fun e w' => e = .returned (.agg #[.int .i64 k0, .int .i64 k1, .int .i64 k2, .int .i64 r3, .int .u32 k4]) ∧ Below w.heap.size w w' := by
  rw [← h3.out]
  rcases h with rfl | rfl
  all_goals
    go_enter Tryd.func39, Tryd.ntmps39
    go_wp2
    refine bodyPost_ret (v := .agg #[.int .i64 _, .int .i64 k1, .int .i64 k2, .int .i64 (bits BinOp.or IntKind.i64 (bits BinOp.or IntKind.i64 k3 1) 4), .int .u32 k4]) (by simp [results, Tryd.results39, go_sem]) rfl ⟨rfl, ((Below.refl _ _).alloc (Nat.le_refl _) _).alloc (by simp) _⟩
theorem rweaken_same (k0 k1 k2 k3 k4 : Int) (h : k0 = 0 ∨ k0 = 1 ∨ k0 = 12 ∨ k0 = 14) (w : World) :
    Calls Tryd.prog 39 #[(Value.agg #[.int .i64 k0, .int .i64 k1, .int .i64 k2, .int .i64 k3, .int .u32 k4])] w fun e w' => e = .returned (Value.agg #[.int .i64 k0, .int .i64 k1, .int .i64 k2, .int .i64 k3, .int .u32 k4]) ∧ Below w.heap.size w w' := by
  rcases h with rfl | rfl | rfl | rfl
  all_goals
    go_enter Tryd.func39, Tryd.ntmps39
    go_wp2
    refine bodyPost_ret (v := .agg #[.int .i64 _, .int .i64 k1, .int .i64 k2, .int .i64 k3, .int .u32 k4]) (by simp [results, Tryd.results39, go_sem]) rfl ⟨rfl, ((Below.refl _ _).alloc (Nat.le_refl _) _).alloc (by simp) _⟩
theorem rweaken_void (k0 k1 k2 k3 k4 : Int) (h0 : ¬ k0 = 0) (h1 : ¬ k0 = 1) (h2 : ¬ k0 = 2) (h3 : ¬ k0 = 3) (h12 : ¬ k0 = 12) (h14 : ¬ k0 = 14) (w : World) :
    Calls Tryd.prog 39 #[(Value.agg #[.int .i64 k0, .int .i64 k1, .int .i64 k2, .int .i64 k3, .int .u32 k4])] w
      fun e w' => e = .returned (.agg #[.int .i64 0, .int .i64 0, .int .i64 0, .int .i64 0, .int .u32 0]) ∧ Below w.heap.size w w' := by
  go_enter Tryd.func39, Tryd.ntmps39
  go_wp2
  refine bodyPost_ret (v := .agg #[.int .i64 0, .int .i64 0, .int .i64 0, .int .i64 0, .int .u32 0]) (by simp [results, Tryd.results39, go_sem]) rfl ⟨rfl, ((Below.refl _ _).alloc (Nat.le_refl _) _).alloc (by simp) _⟩
theorem or14_fin : ∀ n : Fin 8, orI (orI (n.val : Int) 1) 4 = orI (n.val : Int) 5 := by decide +kernel
theorem rweaken_any (k0 k1 k2 k3 k4 : Int) (r0 r1 r2 r3 r4 : Int) (h8 : In8 k3) (h : Hid (Wk [k0, k1, k2, k3, k4] [r0, r1, r2, r3, r4])) (w : World) :
    Calls Tryd.prog 39 #[(Value.agg #[.int .i64 k0, .int .i64 k1, .int .i64 k2, .int .i64 k3, .int .u32 k4])] w fun e w' => e = .returned (Value.agg #[.int .i64 r0, .int .i64 r1, .int .i64 r2, .int .i64 r3, .int .u32 r4]) ∧ Below w.heap.size w w' := by
  rcases h.out with ⟨hk, hr⟩ | ⟨hk, hr⟩ | ⟨hk, hr⟩
  · simp only [List.getD_cons_zero, List.getD_cons_succ, List.cons.injEq, and_true] at hk hr
    obtain ⟨rfl, rfl, rfl, rfl, rfl⟩ := hr
    exact rweaken_mem _ _ _ _ _ _ hk (Lib.hid (by obtain ⟨n, rfl⟩ := h8.fin; exact or14_fin n)) w
  · simp only [List.getD_cons_zero, List.getD_cons_succ, List.cons.injEq, and_true] at hk hr
    obtain ⟨rfl, rfl, rfl, rfl, rfl⟩ := hr
    exact rweaken_same _ _ _ _ _ hk w
  · simp only [List.getD_cons_zero, List.cons.injEq, and_true] at hk hr
    obtain ⟨rfl, rfl, rfl, rfl, rfl⟩ := hr
    exact rweaken_void _ _ _ _ _ hk.1 hk.2.1 hk.2.2.1 hk.2.2.2.1 hk.2.2.2.2.1 hk.2.2.2.2.2 w
theorem rthrough_weak (r : Int) (k0 k1 k2 k3 k4 : Int) (r0 r1 r2 r3 r4 : Int) (h8 : In8 k3) (hr : (bits BinOp.and IntKind.i64 r 4 == 0) = false) (h : Hid (Wk [k0, k1, k2, k3, k4] [r0, r1, r2, r3, r4])) (w : World) :
    Calls Tryd.prog 62 #[.int .i64 r, (Value.agg #[.int .i64 k0, .int .i64 k1, .int .i64 k2, .int .i64 k3, .int .u32 k4])] w fun e w' => e = .returned (Value.agg #[.int .i64 r0, .int .i64 r1, .int .i64 r2, .int .i64 r3, .int .u32 r4]) ∧ Below w.heap.size w w' := by
  go_enter Tryd.func62, Tryd.ntmps62
  go_wp2_with (first | (go_at_call 39; refine (rweaken_any _ _ _ _ _ _ _ _ _ _ h8 h _).mono ?_; rintro e w' ⟨rfl, hb⟩; have hc := (bcell hb).1; have hf := (bcell hb).2; have hz := hb.size))
  refine bodyPost_ret (v := (Value.agg #[.int .i64 r0, .int .i64 r1, .int .i64 r2, .int .i64 r3, .int .u32 r4])) (by simp [results, Tryd.results62, go_sem, hc]) rfl ⟨rfl, ?_⟩
  exact (((((Below.trans (((Below.refl _ _).alloc (Nat.le_refl _) _).alloc (by simp) _) (hb.mono (by simp; omega))).setCell (by simp) _).setCell (by simp) _).setCell (by simp) _).setCell (by simp) _).setCell (by simp) _
theorem rthrough_same (r : Int) (k0 k1 k2 k3 k4 : Int) (hr : (bits BinOp.and IntKind.i64 r 4 == 0) = true) (w : World) :
    Calls Tryd.prog 62 #[.int .i64 r, (Value.agg #[.int .i64 k0, .int .i64 k1, .int .i64 k2, .int .i64 k3, .int .u32 k4])] w fun e w' => e = .returned (Value.agg #[.int .i64 k0, .int .i64 k1, .int .i64 k2, .int .i64 k3, .int .u32 k4]) ∧ Below w.heap.size w w' := by
  go_enter Tryd.func62, Tryd.ntmps62
  go_wp2
  refine bodyPost_ret (v := (Value.agg #[.int .i64 k0, .int .i64 k1, .int .i64 k2, .int .i64 k3, .int .u32 k4])) (by simp [results, Tryd.results62, go_sem]) rfl ⟨rfl, ((Below.refl _ _).alloc (Nat.le_refl _) _).alloc (by simp) _⟩
theorem rwrites_mem (k0 k1 k2 k3 k4 : Int) (h : k0 = 2 ∨ k0 = 3) (w : World) :
    Calls Tryd.prog 64 #[(Value.agg #[.int .i64 k0, .int .i64 k1, .int .i64 k2, .int .i64 k3, .int .u32 k4])] w fun e w' => e = .returned (.bool (bits BinOp.and IntKind.i64 k3 5 == 0)) ∧ Below w.heap.size w w' := by
  rcases h with rfl | rfl
  all_goals
    go_enter Tryd.func64, Tryd.ntmps64
    go_wp2
    go_ret
    exact ⟨rfl, (Below.refl _ _).alloc (Nat.le_refl _) _⟩
theorem rwrites_no (k0 k1 k2 k3 k4 : Int) (h2 : ¬ k0 = 2) (h3 : ¬ k0 = 3) (w : World) :
    Calls Tryd.prog 64 #[(Value.agg #[.int .i64 k0, .int .i64 k1, .int .i64 k2, .int .i64 k3, .int .u32 k4])] w fun e w' => e = .returned (.bool false) ∧ Below w.heap.size w w' := by
  have e2 : (k0 == 2) = false := by simpa using h2
  have e3 : (k0 == 3) = false := by simpa using h3
  go_enter Tryd.func64, Tryd.ntmps64
  go_wp2
  go_ret
  exact ⟨rfl, (Below.refl _ _).alloc (Nat.le_refl _) _⟩
/-- Does a give no more than b? -/
def withinB (a0 a1 a2 a3 a4 b0 b1 b2 b3 b4 : Int) : Bool := (bits BinOp.and IntKind.i64 a3 b3 == b3) && sameB a0 a1 a2 0 a4 b0 b1 b2 0 b4
theorem RowI.below {W w' : World} {a : Option Addr} {len : Nat} {xs : List Int} (h : RowI W a len xs) (hb : Below W.heap.size W w') : RowI w' a len xs := by
  obtain ⟨h1, h2⟩ := h
  refine ⟨h1, ?_⟩
  rcases h2 with h2 | ⟨b, off, rfl, hl, hc⟩
  · exact .inl h2
  · exact .inr ⟨b, off, rfl, Nat.lt_of_lt_of_le hl hb.size, fun i hi => (hb.cell (p := ⟨b, off + i, none⟩) hl).trans (hc i hi)⟩
end Go.Proofs.YtkhgnmgcdgjncaaDoor
