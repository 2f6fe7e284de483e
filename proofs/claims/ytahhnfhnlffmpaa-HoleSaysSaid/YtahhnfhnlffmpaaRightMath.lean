import Derived.Test.YtahhnfhnlffmpaaOrders
namespace Go.Proofs.Ytahhnfhnlffmpaa
open Go.ChangeShapes Go.WideShapes Go.ChangeAt Go.RowKit
set_option linter.unusedVariables false
def andI (a b : Int) : Int := bits BinOp.and IntKind.i64 a b
def orI (a b : Int) : Int := bits BinOp.or IntKind.i64 a b
theorem and8 (n m : Nat) (hm : m < 8) : n &&& m = (n % 8) &&& m := by
  have h1 : (n &&& m) < 8 := Nat.lt_of_le_of_lt Nat.and_le_right hm
  have h2 : (n &&& m) % 2 ^ 3 = (n % 2 ^ 3) &&& (m % 2 ^ 3) := Nat.and_mod_two_pow
  have e1 : (n &&& m) % 8 = n &&& m := Nat.mod_eq_of_lt h1
  have e2 : m % 8 = m := Nat.mod_eq_of_lt hm
  have h3 : (n &&& m) % 8 = (n % 8) &&& (m % 8) := h2
  rw [e1, e2] at h3
  exact h3
theorem and_fin : ∀ n : Fin 8, ∀ i : Fin 3, IntKind.i64.wrap ((n.val &&& 2 ^ i.val : Nat) : Int) = 0 ∨ IntKind.i64.wrap ((n.val &&& 2 ^ i.val : Nat) : Int) = ((2 ^ i.val : Nat) : Int) := by decide +kernel
theorem and_pow (a : Int) (i : Nat) (hi : i < 3) : andI a ((2 ^ i : Nat) : Int) = 0 ∨ andI a ((2 ^ i : Nat) : Int) = ((2 ^ i : Nat) : Int) := by
  have e : andI a ((2 ^ i : Nat) : Int) = IntKind.i64.wrap (((BitVec.ofInt 64 a).toNat &&& 2 ^ i : Nat) : Int) := by
    show IntKind.i64.wrap ((BitVec.ofInt 64 a &&& BitVec.ofInt 64 ((2 ^ i : Nat) : Int)).toNat : Int) = _
    rw [BitVec.toNat_and, BitVec.ofInt_natCast, BitVec.toNat_ofNat, Nat.mod_eq_of_lt (a := 2 ^ i)]
    exact Nat.pow_lt_pow_right (by decide) (by omega)
  have h8 : 2 ^ i < 8 := Nat.pow_lt_pow_right (m := i) (n := 3) (by decide) hi
  rw [e, and8 _ _ h8]
  exact and_fin ⟨(BitVec.ofInt 64 a).toNat % 8, Nat.mod_lt _ (by decide)⟩ ⟨i, hi⟩
theorem and1 (a : Int) : andI a 1 = 0 ∨ andI a 1 = 1 := and_pow a 0 (by decide)
theorem and2 (a : Int) : andI a 2 = 0 ∨ andI a 2 = 2 := and_pow a 1 (by decide)
theorem and4 (a : Int) : andI a 4 = 0 ∨ andI a 4 = 4 := and_pow a 2 (by decide)
def In8 (x : Int) : Prop := 0 ≤ x ∧ x ≤ 7
theorem In8.fin {x : Int} (h : In8 x) : ∃ n : Fin 8, x = (n.val : Int) := by obtain ⟨h1, h2⟩ := h; exact ⟨⟨x.toNat, by omega⟩, by simp; omega⟩
theorem In8.of (n : Fin 8) : In8 (n.val : Int) := ⟨by omega, by have := n.isLt; omega⟩
theorem or_fin : ∀ n : Fin 8, ∀ m : Fin 3, ∃ r : Fin 8, orI (n.val : Int) ((2 ^ m.val : Nat) : Int) = (r.val : Int) ∧ ∀ q : Fin 8, (andI (n.val : Int) (q.val : Int) == (q.val : Int)) = true → (andI (r.val : Int) (q.val : Int) == (q.val : Int)) = true := by decide +kernel
theorem self_fin : ∀ n : Fin 8, (andI (n.val : Int) (n.val : Int) == (n.val : Int)) = true := by decide +kernel
theorem trans_fin : ∀ x y z : Fin 8, (andI (x.val : Int) (y.val : Int) == (y.val : Int)) = true → (andI (y.val : Int) (z.val : Int) == (z.val : Int)) = true → (andI (x.val : Int) (z.val : Int) == (z.val : Int)) = true := by decide +kernel
theorem both_fin : ∀ x y : Fin 8, ((andI (x.val : Int) (y.val : Int) == (y.val : Int)) && (andI (y.val : Int) (x.val : Int) == (x.val : Int))) = ((x.val : Int) == (y.val : Int)) := by decide +kernel
/-- One right less: within 0 to 7, and what was lacked before is lacked still. -/
theorem lessOne_in (n : Int) (hn : In8 n) (x : Int) (hx : x = 0 ∨ x = 1 ∨ x = 2 ∨ x = 4) : In8 (lessOne n x) ∧ ∀ q, In8 q → (andI n q == q) = true → (andI (lessOne n x) q == q) = true := by
  obtain ⟨n, rfl⟩ := hn.fin
  rcases hx with rfl | hx
  · exact ⟨hn, fun q _ h => h⟩
  · have hm : ∃ m : Fin 3, x = ((2 ^ m.val : Nat) : Int) := by rcases hx with rfl | rfl | rfl; exact ⟨0, rfl⟩; exact ⟨1, rfl⟩; exact ⟨2, rfl⟩
    have e : lessOne (n.val : Int) x = orI (n.val : Int) x := if_pos hx
    obtain ⟨m, rfl⟩ := hm
    obtain ⟨r, hr, hq⟩ := or_fin n m
    rw [e, hr]
    exact ⟨In8.of r, fun q h8 h => by obtain ⟨q, rfl⟩ := h8.fin; exact hq q h⟩
theorem lessK_in (k0 k3 a b c : Int) (h3 : In8 k3) (ha : a = 0 ∨ a = 1 ∨ a = 2 ∨ a = 4) (hb : b = 0 ∨ b = 1 ∨ b = 2 ∨ b = 4) (hc : c = 0 ∨ c = 1 ∨ c = 2 ∨ c = 4) : In8 (lessK k0 k3 [a, b, c]) ∧ (andI (lessK k0 k3 [a, b, c]) k3 == k3) = true := by
  have hs : (andI k3 k3 == k3) = true := by obtain ⟨n, rfl⟩ := h3.fin; exact self_fin n
  unfold lessK
  split
  · have h1 := lessOne_in k3 h3 a ha
    have h2 := lessOne_in _ h1.1 b hb
    have h4 := lessOne_in _ h2.1 c hc
    exact ⟨h4.1, h4.2 _ h3 (h2.2 _ h3 (h1.2 _ h3 hs))⟩
  · exact ⟨h3, hs⟩
theorem rights_in (k0 k1 k2 k3 k4 : Int) (h : codeOf k0 k1 k2 k3 k4 = 0) : In8 k3 := by
  unfold codeOf at h
  by_cases h1 : k0 < 0 ∨ 14 < k0
  · rw [if_pos h1] at h; omega
  rw [if_neg h1] at h
  by_cases h2 : InB k0 k1 k2 k3 k4
  · unfold InB at h2
    have : rightsOf k0 ≤ 7 := by unfold rightsOf; split <;> omega
    exact ⟨h2.2.2.2.2.1, by omega⟩
  · rw [if_neg h2] at h; omega
theorem fits32 {a : Int} (h : (Lit.int .u32 a).wf = true) : a ≤ 4294967295 := by
  have h : 0 ≤ a ∧ a ≤ 4294967295 := by simpa [Lit.wf, IntKind.min, IntKind.max, IntKind.signed, IntKind.bits] using h
  exact h.2
theorem code_cases (k0 k1 k2 k3 k4 : Int) : codeOf k0 k1 k2 k3 k4 = 0 ∨ codeOf k0 k1 k2 k3 k4 = 102 ∨ codeOf k0 k1 k2 k3 k4 = 103 := by
  unfold codeOf; split
  · exact .inr (.inl rfl)
  · split
    · exact .inl rfl
    · exact .inr (.inr rfl)
end Go.Proofs.Ytahhnfhnlffmpaa
