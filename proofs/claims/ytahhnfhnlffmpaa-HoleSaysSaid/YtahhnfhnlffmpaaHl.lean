/-
  hole: which factories reach out: the mathematics of look.
-/
import Derived.Test.YtahhnfhnlffmpaaOpen
namespace Go.Proofs.Ytahhnfhnlffmpaa
set_option linter.unusedVariables false
/-- Factories as far as holes go: how many; of each: is it sealed, how many parts; of each part: to which of them it leads, is it sensory. -/
structure Fac where
  n : Nat
  sl : Nat → Bool
  ct : Nat → Nat
  tg : Nat → Nat → Option Nat
  sn : Nat → Nat → Bool
def anyTo (p : Nat → Bool) : Nat → Bool
  | 0 => false
  | n + 1 => anyTo p n || p n
theorem anyTo_iff (p : Nat → Bool) : ∀ n, anyTo p n = true ↔ ∃ j, j < n ∧ p j = true
  | 0 => by simp [anyTo]
  | n + 1 => by
    unfold anyTo
    rw [Bool.or_eq_true, anyTo_iff p n]
    constructor
    · rintro (⟨j, hj, h⟩ | h)
      · exact ⟨j, by omega, h⟩
      · exact ⟨n, by omega, h⟩
    · rintro ⟨j, hj, h⟩
      by_cases e : j = n
      · exact .inr (e ▸ h)
      · exact .inl ⟨j, by omega, h⟩
/-- Is a part a hole by itself? -/
def Fac.own (F : Fac) (i j : Nat) : Bool := (F.tg i j).isNone && !F.sn i j
/-- Does one reach out by itself, of its first m parts? -/
def Fac.baseTo (F : Fac) (i m : Nat) : Bool := !F.sl i || anyTo (F.own i) m
def Fac.base (F : Fac) (i : Nat) : Bool := F.baseTo i (F.ct i)
theorem Fac.base0 (F : Fac) (i : Nat) : F.baseTo i 0 = !F.sl i := by simp [baseTo, anyTo]
theorem Fac.baseS (F : Fac) (i m : Nat) : F.baseTo i (m + 1) = (F.baseTo i m || F.own i m) := by simp [baseTo, anyTo, Bool.or_assoc]
/-- What reaches out. -/
inductive Fac.Reach (F : Fac) : Nat → Prop
  | self (i : Nat) : i < F.n → F.base i = true → Fac.Reach F i
  | part (i j a : Nat) : i < F.n → j < F.ct i → F.tg i j = some a → Fac.Reach F a → Fac.Reach F i
def updL (U : Nat → List Nat) (a : Nat) (l : List Nat) : Nat → List Nat := fun k => if k = a then l else U k
theorem updL_same (U : Nat → List Nat) (a : Nat) (l : List Nat) : updL U a l a = l := by simp [updL]
theorem updL_other (U : Nat → List Nat) (a k : Nat) (l : List Nat) (h : k ≠ a) : updL U a l k = U k := by simp [updL, h]
/-- Who has whom: behind all parts of those ahead of m, and the first q of m's. -/
structure UsOk (F : Fac) (m q : Nat) (U : Nat → List Nat) : Prop where
  mem : ∀ a x, x ∈ U a ↔ ∃ j, F.tg x j = some a ∧ ((x < m ∧ j < F.ct x) ∨ (x = m ∧ j < q))
  len : ∀ a, (U a).length ≤ m * 64 + q
theorem UsOk.start (F : Fac) : UsOk F 0 0 (fun _ => []) := ⟨fun a x => by simp, fun a => by simp⟩
theorem UsOk.some {F : Fac} {m q a : Nat} {U : Nat → List Nat} (h : UsOk F m q U) (ht : F.tg m q = some a) : UsOk F m (q + 1) (updL U a (U a ++ [m])) := by
  refine ⟨fun b x => ?_, fun b => ?_⟩
  · by_cases e : b = a
    · subst e
      rw [updL_same, List.mem_append, h.mem b x, List.mem_singleton]
      constructor
      · rintro (⟨j, h1, h2⟩ | rfl)
        · exact ⟨j, h1, h2.imp id fun h => ⟨h.1, by omega⟩⟩
        · exact ⟨q, ht, .inr ⟨rfl, by omega⟩⟩
      · rintro ⟨j, h1, h2 | ⟨rfl, h2⟩⟩
        · exact .inl ⟨j, h1, .inl h2⟩
        · by_cases e : j = q
          · exact .inr rfl
          · exact .inl ⟨j, h1, .inr ⟨rfl, by omega⟩⟩
    · rw [updL_other _ _ _ _ e, h.mem b x]
      constructor
      · rintro ⟨j, h1, h2⟩
        exact ⟨j, h1, h2.imp id fun h => ⟨h.1, by omega⟩⟩
      · rintro ⟨j, h1, h2 | ⟨rfl, h2⟩⟩
        · exact ⟨j, h1, .inl h2⟩
        · by_cases e' : j = q
          · subst e'
            rw [ht] at h1
            exact absurd (Option.some.inj h1).symm e
          · exact ⟨j, h1, .inr ⟨rfl, by omega⟩⟩
  · have := h.len b
    by_cases e : b = a
    · subst e
      rw [updL_same, List.length_append, List.length_singleton]
      omega
    · rw [updL_other _ _ _ _ e]
      omega
theorem UsOk.none {F : Fac} {m q : Nat} {U : Nat → List Nat} (h : UsOk F m q U) (ht : F.tg m q = none) : UsOk F m (q + 1) U := by
  refine ⟨fun b x => ?_, fun b => by have := h.len b; omega⟩
  rw [h.mem b x]
  constructor
  · rintro ⟨j, h1, h2⟩
    exact ⟨j, h1, h2.imp id fun h => ⟨h.1, by omega⟩⟩
  · rintro ⟨j, h1, h2 | ⟨rfl, h2⟩⟩
    · exact ⟨j, h1, .inl h2⟩
    · by_cases e' : j = q
      · subst e'
        rw [ht] at h1
        cases h1
      · exact ⟨j, h1, .inr ⟨rfl, by omega⟩⟩
theorem UsOk.row {F : Fac} {m q : Nat} {U : Nat → List Nat} (h : UsOk F m q U) (hq : q = F.ct m) (h64 : F.ct m ≤ 64) : UsOk F (m + 1) 0 U := by
  subst hq
  refine ⟨fun b x => ?_, fun b => by have := h.len b; omega⟩
  rw [h.mem b x]
  constructor
  · rintro ⟨j, h1, h2 | ⟨rfl, h2⟩⟩
    · exact ⟨j, h1, .inl ⟨by omega, h2.2⟩⟩
    · exact ⟨j, h1, .inl ⟨by omega, h2⟩⟩
  · rintro ⟨j, h1, h2 | ⟨rfl, h2⟩⟩
    · by_cases e : x = m
      · subst e
        exact ⟨j, h1, .inr ⟨rfl, h2.2⟩⟩
      · exact ⟨j, h1, .inl ⟨by omega, h2.2⟩⟩
    · omega
def updB (R : Nat → Bool) (a : Nat) (b : Bool) : Nat → Bool := fun k => if k = a then b else R k
theorem updB_same (R : Nat → Bool) (a : Nat) (b : Bool) : updB R a b a = b := by simp [updB]
theorem updB_other (R : Nat → Bool) (a k : Nat) (b : Bool) (h : k ≠ a) : updB R a b k = R k := by simp [updB, h]
/-- The list of what is to be looked at, and what was told to reach out: i is being looked at, its first q users are done. -/
structure WkOk (F : Fac) (U : Nat → List Nat) (R : Nat → Bool) (l : List Nat) : Prop where
  sound : ∀ x, x < F.n → R x = true → F.Reach x
  base : ∀ x, x < F.n → F.base x = true → R x = true
  clos : ∀ x, x < F.n → R x = true → x ∈ l ∨ ∀ u, u ∈ U x → R u = true
  inn : ∀ x, x ∈ l → x < F.n ∧ R x = true
structure WqOk (F : Fac) (U : Nat → List Nat) (R : Nat → Bool) (l : List Nat) (i q : Nat) : Prop where
  sound : ∀ x, x < F.n → R x = true → F.Reach x
  base : ∀ x, x < F.n → F.base x = true → R x = true
  clos : ∀ x, x < F.n → R x = true → x = i ∨ x ∈ l ∨ ∀ u, u ∈ U x → R u = true
  inn : ∀ x, x ∈ l → x < F.n ∧ R x = true
  at_ : i < F.n ∧ R i = true
  done : ∀ u, u ∈ (U i).take q → R u = true
section
variable {F : Fac} {U : Nat → List Nat} {R : Nat → Bool} {l : List Nat} {i q : Nat}
theorem WkOk.pop (h : WkOk F U R (l ++ [i])) : WqOk F U R l i 0 :=
  ⟨h.sound, h.base, fun x hx hr => by
    rcases h.clos x hx hr with h1 | h1
    · rcases List.mem_append.1 h1 with h2 | h2
      · exact .inr (.inl h2)
      · exact .inl (List.mem_singleton.1 h2)
    · exact .inr (.inr h1), fun x hx => h.inn x (List.mem_append.2 (.inl hx)), h.inn i (List.mem_append.2 (.inr (List.mem_singleton.2 rfl))), fun u hu => by simp at hu⟩
theorem WqOk.end (h : WqOk F U R l i q) (hq : q = (U i).length) : WkOk F U R l :=
  ⟨h.sound, h.base, fun x hx hr => by
    rcases h.clos x hx hr with rfl | h1 | h1
    · right
      intro u hu
      refine h.done u ?_
      rw [hq, List.take_length]
      exact hu
    · exact .inl h1
    · exact .inr h1, h.inn⟩
theorem mem_take_succ {l : List Nat} {q u x : Nat} (hx : l[q]? = some x) (hu : u ∈ l.take (q + 1)) : u ∈ l.take q ∨ u = x := by
  rw [List.take_add_one, hx] at hu
  rcases List.mem_append.1 hu with h | h
  · exact .inl h
  · exact .inr (by simpa using h)
theorem WqOk.old (h : WqOk F U R l i q) {x : Nat} (hx : (U i)[q]? = some x) (hr : R x = true) : WqOk F U R l i (q + 1) :=
  ⟨h.sound, h.base, h.clos, h.inn, h.at_, fun u hu => by
    rcases mem_take_succ hx hu with h1 | rfl
    · exact h.done u h1
    · exact hr⟩
theorem WqOk.new (h : WqOk F U R l i q) {x : Nat} (hx : (U i)[q]? = some x) (hxn : x < F.n) (hR : F.Reach x) : WqOk F U (updB R x true) (l ++ [x]) i (q + 1) := by
  have up : ∀ y, R y = true → updB R x true y = true := fun y hy => by
    unfold updB
    split
    · rfl
    · exact hy
  refine ⟨fun y hy hr => ?_, fun y hy hb => up y (h.base y hy hb), fun y hy hr => ?_, fun y hy => ?_, ⟨h.at_.1, up i h.at_.2⟩, fun u hu => ?_⟩
  · by_cases e : y = x
    · rw [e]; exact hR
    · rw [updB_other _ _ _ _ e] at hr
      exact h.sound y hy hr
  · by_cases e : y = x
    · exact .inr (.inl (List.mem_append.2 (.inr (by simp [e]))))
    · rw [updB_other _ _ _ _ e] at hr
      rcases h.clos y hy hr with h1 | h1 | h1
      · exact .inl h1
      · exact .inr (.inl (List.mem_append.2 (.inl h1)))
      · exact .inr (.inr fun u hu => up u (h1 u hu))
  · rcases List.mem_append.1 hy with h1 | h1
    · exact ⟨(h.inn y h1).1, up y (h.inn y h1).2⟩
    · rw [List.mem_singleton] at h1
      subst h1
      exact ⟨hxn, updB_same _ _ _⟩
  · rcases mem_take_succ hx hu with h1 | rfl
    · exact up u (h.done u h1)
    · exact updB_same _ _ _
/-- A user of what reaches out reaches out. -/
theorem WqOk.user (h : WqOk F U R l i q) (hU : UsOk F F.n 0 U) {x : Nat} (hx : (U i)[q]? = some x) : x < F.n ∧ F.Reach x := by
  have hm : x ∈ U i := List.mem_of_getElem? hx
  obtain ⟨j, h1, h2 | h2⟩ := (hU.mem i x).1 hm
  · exact ⟨h2.1, .part x j i h2.1 h2.2 h1 (h.sound i h.at_.1 h.at_.2)⟩
  · omega
/-- Nothing is left to be looked at: all is told. -/
theorem WkOk.all (h : WkOk F U R []) (hU : UsOk F F.n 0 U) (hT : ∀ i j a, F.tg i j = some a → a < F.n) : ∀ x, x < F.n → (R x = true ↔ F.Reach x) := by
  have key : ∀ x, F.Reach x → x < F.n → R x = true := by
    intro x hx
    induction hx with
    | self i hi hb => intro _; exact h.base i hi hb
    | part i j a hi hj ht hr ih =>
      intro _
      have ha := hT i j a ht
      rcases h.clos a ha (ih ha) with h1 | h1
      · cases h1
      · exact h1 i ((hU.mem a i).2 ⟨j, ht, .inl ⟨hi, hj⟩⟩)
  exact fun x hx => ⟨h.sound x hx, fun hr => key x hr hx⟩
end
/-- The list, ahead of the first look: those that reach out by themselves. -/
structure BkOk (F : Fac) (m : Nat) (R : Nat → Bool) (l : List Nat) : Prop where
  is : ∀ x, x < m → R x = F.base x
  mem : ∀ x, x ∈ l ↔ x < m ∧ F.base x = true
  len : l.length ≤ m
theorem BkOk.start (F : Fac) (R : Nat → Bool) : BkOk F 0 R [] := ⟨fun x hx => by omega, fun x => by simp, Nat.le_refl _⟩
theorem BkOk.yes {F : Fac} {m : Nat} {R R' : Nat → Bool} {l : List Nat} (h : BkOk F m R l) (hb : F.base m = true) (hR : ∀ x, x < m → R' x = R x) (hm : R' m = true) : BkOk F (m + 1) R' (l ++ [m]) := by
  refine ⟨fun x hx => ?_, fun x => ?_, by have := h.len; simp; omega⟩
  · by_cases e : x = m
    · rw [e, hm, hb]
    · rw [hR x (by omega), h.is x (by omega)]
  · rw [List.mem_append, h.mem, List.mem_singleton]
    constructor
    · rintro (h1 | rfl)
      · exact ⟨by omega, h1.2⟩
      · exact ⟨by omega, hb⟩
    · rintro ⟨h1, h2⟩
      by_cases e : x = m
      · exact .inr e
      · exact .inl ⟨by omega, h2⟩
theorem BkOk.no {F : Fac} {m : Nat} {R R' : Nat → Bool} {l : List Nat} (h : BkOk F m R l) (hb : F.base m = false) (hR : ∀ x, x < m → R' x = R x) (hm : R' m = false) : BkOk F (m + 1) R' l := by
  refine ⟨fun x hx => ?_, fun x => ?_, by have := h.len; omega⟩
  · by_cases e : x = m
    · rw [e, hm, hb]
    · rw [hR x (by omega), h.is x (by omega)]
  · rw [h.mem]
    constructor
    · rintro ⟨h1, h2⟩
      exact ⟨by omega, h2⟩
    · rintro ⟨h1, h2⟩
      by_cases e : x = m
      · rw [e, hb] at h2; cases h2
      · exact ⟨by omega, h2⟩
theorem BkOk.work {F : Fac} {U : Nat → List Nat} {R : Nat → Bool} {l : List Nat} (h : BkOk F F.n R l) : WkOk F U R l :=
  ⟨fun x hx hr => .self x hx (by rw [← h.is x hx]; exact hr), fun x hx hb => by rw [h.is x hx]; exact hb, fun x hx hr => .inl ((h.mem x).2 ⟨hx, by rw [← h.is x hx]; exact hr⟩), fun x hx => ⟨((h.mem x).1 hx).1, by rw [h.is x ((h.mem x).1 hx).1]; exact ((h.mem x).1 hx).2⟩⟩
/-- How many were not told to reach out. -/
def fls (R : Nat → Bool) : Nat → Nat
  | 0 => 0
  | n + 1 => fls R n + (if R n then 0 else 1)
theorem fls_le (R : Nat → Bool) : ∀ n, fls R n ≤ n
  | 0 => Nat.le_refl _
  | n + 1 => by have := fls_le R n; unfold fls; split <;> omega
theorem fls_congr {R R' : Nat → Bool} : ∀ n, (∀ x, x < n → R x = R' x) → fls R n = fls R' n
  | 0, _ => rfl
  | n + 1, h => by unfold fls; rw [fls_congr n (fun x hx => h x (by omega)), h n (by omega)]
theorem fls_set {R : Nat → Bool} {a : Nat} (ha : R a = false) : ∀ n, a < n → fls (updB R a true) n + 1 = fls R n
  | 0, h => by omega
  | n + 1, h => by
    unfold fls
    by_cases e : a = n
    · subst e
      rw [fls_congr (R := updB R a true) (R' := R) a (fun x hx => updB_other _ _ _ _ (by omega)), updB_same, ha]
      simp
    · have := fls_set ha n (by omega)
      rw [updB_other _ _ _ _ (by omega)]
      omega
end Go.Proofs.Ytahhnfhnlffmpaa
