/-
  The text of a right key as one function, and that unlike right keys have unlike texts: plain mathematics.
-/
import Derived.Test.YtggnaalcdekccaaDoorKeyTt
import Derived.Test.YtggnaalcdekccaaDoorKeyBk
namespace Go.Proofs.YtggnaalcdekccaaDoor
set_option linter.unusedVariables false
theorem span_inj {P : UInt8 → Bool} : ∀ {a b x y : List UInt8}, (∀ c ∈ a, P c = true) → (∀ c ∈ b, P c = true) → (∀ c t, x = c :: t → P c = false) → (∀ c t, y = c :: t → P c = false) → a ++ x = b ++ y → a = b ∧ x = y
  | [], [], x, y, _, _, _, _, h => ⟨rfl, by simpa using h⟩
  | [], c :: b, x, y, _, hb, hx, _, h => by
    have h1 := hx c (b ++ y) (by simpa using h)
    rw [hb c (by simp)] at h1
    exact absurd h1 (by decide)
  | c :: a, [], x, y, ha, _, _, hy, h => by
    have h1 := hy c (a ++ x) (by simpa using h.symm)
    rw [ha c (by simp)] at h1
    exact absurd h1 (by decide)
  | c :: a, d :: b, x, y, ha, hb, hx, hy, h => by
    simp only [List.cons_append, List.cons.injEq] at h
    obtain ⟨e1, e2⟩ := span_inj (a := a) (b := b) (fun c hc => ha c (by simp [hc])) (fun c hc => hb c (by simp [hc])) hx hy h.2
    exact ⟨by rw [h.1, e1], e2⟩
def isDig (c : UInt8) : Bool := 48 ≤ c && c ≤ 57
theorem dig_fin : ∀ d : Fin 10, isDig (UInt8.ofNat (48 + d.val)) = true ∧ (UInt8.ofNat (48 + d.val)).toNat - 48 = d.val := by decide
theorem dec_digs (u : Nat) : ∀ c ∈ Lib.decDigits u, isDig c = true := by
  induction u using Nat.strongRecOn with
  | _ u ih =>
    intro c hc
    rw [Lib.decDigits] at hc
    split at hc
    · rename_i h
      rw [List.mem_singleton.1 hc]
      exact (dig_fin ⟨u, h⟩).1
    · rename_i h
      rcases List.mem_append.1 hc with h1 | h1
      · exact ih (u / 10) (by omega) c h1
      · rw [List.mem_singleton.1 h1]
        exact (dig_fin ⟨u % 10, Nat.mod_lt _ (by decide)⟩).1
def decVal (l : List UInt8) : Nat := l.foldl (fun n c => 10 * n + (c.toNat - 48)) 0
theorem decVal_dec (u : Nat) : decVal (Lib.decDigits u) = u := by
  induction u using Nat.strongRecOn with
  | _ u ih =>
    rw [Lib.decDigits]
    split
    · rename_i h
      have := (dig_fin ⟨u, h⟩).2
      simpa [decVal] using this
    · rename_i h
      have h1 := (dig_fin ⟨u % 10, Nat.mod_lt _ (by decide)⟩).2
      have h2 := ih (u / 10) (by omega)
      unfold decVal at h2 ⊢
      rw [List.foldl_append, h2]
      simp only [List.foldl_cons, List.foldl_nil]
      simp only at h1
      rw [h1]
      omega
theorem dec_inj {u v : Nat} (h : Lib.decDigits u = Lib.decDigits v) : u = v := by rw [← decVal_dec u, h, decVal_dec]
theorem names_letters : ∀ j : Fin 15, ∀ c ∈ knL.getD j.val [], (c != 32) = true := by decide +kernel
theorem names_inj : ∀ j j' : Fin 15, knL.getD j.val [] = knL.getD j'.val [] → j = j' := by decide +kernel
def lackL (r : Int) : List UInt8 := (lackT r).data.toList
theorem lack_inj : ∀ r r' : Fin 8, lackL r.val = lackL r'.val → r = r' := by decide +kernel
theorem lack_head : ∀ r : Fin 8, (lackL r.val = [] ∨ (lackL r.val).head? = some 32) ∧ ¬ (lackL r.val).take 2 = [32, 43] := by decide +kernel
/-- The text of a right key, as a list of bytes. -/
def txL (j i v : Nat) (r : Int) (u : Nat) : List UInt8 :=
  knL.getD j [] ++ (if j = 1 then 32 :: Lib.decDigits u else if placesOf j = 0 then [] else 32 :: (Lib.decDigits i ++ (46 :: (Lib.decDigits v ++ ((if u = 0 then [] else 32 :: 43 :: Lib.decDigits u) ++ lackL r)))))
/-- The text of a right key. -/
def txB (k0 k1 k2 k3 k4 : Int) : ByteArray :=
  if k0 = 1 then nmS 1 ++ ⟨#[32]⟩ ++ decS k4 else if placesOf k0 = 0 then nmS k0 else if k4 = 0 then (nmS k0 ++ ⟨#[32]⟩ ++ decS k1 ++ ⟨#[46]⟩ ++ decS k2) ++ lackT k3 else (nmS k0 ++ ⟨#[32]⟩ ++ decS k1 ++ ⟨#[46]⟩ ++ decS k2) ++ (⟨#[32, 43]⟩ ++ decS k4) ++ lackT k3
theorem ba_list (a b : ByteArray) : (a ++ b).data.toList = a.data.toList ++ b.data.toList := by simp
theorem txB_list (j i v : Nat) (r : Int) (u : Nat) : (txB j i v r u).data.toList = txL j i v r u := by
  unfold txB txL
  by_cases h1 : j = 1
  · subst h1
    rw [if_pos (by rfl), if_pos rfl]
    simp only [ba_list]
    simp [nmS, decS]
  · rw [if_neg (by omega), if_neg h1]
    by_cases h2 : placesOf j = 0
    · rw [if_pos h2, if_pos h2]
      simp [nmS]
    · rw [if_neg h2, if_neg h2]
      by_cases h3 : u = 0
      · subst h3
        rw [if_pos (by rfl), if_pos rfl]
        simp only [ba_list]
        simp [nmS, decS, lackL]
      · rw [if_neg (by omega), if_neg h3]
        simp only [ba_list]
        simp [nmS, decS, lackL]
theorem right_plain {k0 k1 k2 k3 k4 : Int} (h : rightB k0 k1 k2 k3 k4 = true) (hp : placesOf k0 = 0) (h1 : ¬ k0 = 1) (g : 0 ≤ k4) : k1 = 0 ∧ k2 = 0 ∧ k3 = 0 ∧ k4 = 0 := by
  simp only [rightB, wB, Bool.and_eq_true, decide_eq_true_eq] at h
  obtain ⟨h0, h1', h2, h3, h4⟩ := h
  have e1 : hidOf k0 = 0 := by unfold hidOf; rw [if_neg (by omega)]
  have e2 : hverOf k0 = 0 := by unfold hverOf; rw [if_neg (by omega)]
  have n : ¬ (k0 = 2 ∨ k0 = 3 ∨ k0 = 5 ∨ k0 = 6) := by
    rintro (rfl | rfl | rfl | rfl) <;> revert hp <;> decide
  have e3 : hrOf k0 = 0 := by unfold hrOf; rw [if_neg (by simp; omega)]
  have e4 : dataMost k0 = 0 := by unfold dataMost; repeat' split
                                  all_goals omega
  omega
theorem tx_inj {j i v u j' i' v' u' : Nat} {r r' : Int} (h : rightB j i v r u = true) (h' : rightB j' i' v' r' u' = true) (e : txL j i v r u = txL j' i' v' r' u') : j = j' ∧ i = i' ∧ v = v' ∧ r = r' ∧ u = u' := by
  have b := right_bounds h
  have b' := right_bounds h'
  obtain ⟨hj, hn⟩ : knL.getD j [] = knL.getD j' [] ∧ _ := span_inj (P := fun c => c != 32) (names_letters ⟨j, by omega⟩) (names_letters ⟨j', by omega⟩) (by
      intro c t hc
      split at hc
      · injection hc with e1 _; rw [← e1]; rfl
      · split at hc
        · exact absurd hc (by simp)
        · injection hc with e1 _; rw [← e1]; rfl) (by
      intro c t hc
      split at hc
      · injection hc with e1 _; rw [← e1]; rfl
      · split at hc
        · exact absurd hc (by simp)
        · injection hc with e1 _; rw [← e1]; rfl) e
  have ej : j = j' := by
    have := names_inj ⟨j, by omega⟩ ⟨j', by omega⟩ hj
    simpa using this
  subst ej
  clear hj e
  by_cases h1 : j = 1
  · rw [if_pos h1, if_pos h1] at hn
    injection hn with _ e2
    have := dec_inj e2
    have c1 := b.2.2.2.2.2.2.2.2.2.2 (by omega)
    have c2 := b'.2.2.2.2.2.2.2.2.2.2 (by omega)
    omega
  · rw [if_neg h1, if_neg h1] at hn
    by_cases h2 : placesOf j = 0
    · have c1 := right_plain h h2 (by omega) (by omega)
      have c2 := right_plain h' h2 (by omega) (by omega)
      omega
    · rw [if_neg h2, if_neg h2] at hn
      injection hn with _ e2
      have nd : ∀ (n : UInt8) (x : List UInt8), isDig n = false → ∀ c t, n :: x = c :: t → isDig c = false := by
        intro n x hn c t hc
        injection hc with e1 _
        rw [← e1]; exact hn
      obtain ⟨ei, e3⟩ := span_inj (P := isDig) (dec_digs i) (dec_digs i') (nd 46 _ (by decide)) (nd 46 _ (by decide)) e2
      injection e3 with _ e4
      have lk : ∀ (s : Int), 0 ≤ s → s ≤ 7 → ∀ c t, lackL s = c :: t → isDig c = false := by
        intro s s0 s7 c t hc
        have hs := (lack_head ⟨s.toNat, by omega⟩).1
        rw [show (((⟨s.toNat, by omega⟩ : Fin 8).val : Nat) : Int) = s by simp; omega, hc] at hs
        rcases hs with hs | hs
        · exact absurd hs (by simp)
        · simp at hs
          rw [hs]; decide
      have dl : ∀ (n : Nat) (s : Int), 0 ≤ s → s ≤ 7 → ∀ c t, (if n = 0 then [] else 32 :: 43 :: Lib.decDigits n) ++ lackL s = c :: t → isDig c = false := by
        intro n s s0 s7 c t hc
        split at hc
        · exact lk s s0 s7 c t (by simpa using hc)
        · injection hc with e1 _
          rw [← e1]; decide
      obtain ⟨ev, e5⟩ := span_inj (P := isDig) (dec_digs v) (dec_digs v') (dl u r (by omega) (by omega)) (dl u' r' (by omega) (by omega)) e4
      have li : ∀ (s s' : Int), 0 ≤ s → s ≤ 7 → 0 ≤ s' → s' ≤ 7 → lackL s = lackL s' → s = s' := by
        intro s s' a0 a7 b0 b7 he
        have := lack_inj ⟨s.toNat, by omega⟩ ⟨s'.toNat, by omega⟩ (by
          rw [show (((⟨s.toNat, by omega⟩ : Fin 8).val : Nat) : Int) = s by simp; omega, show (((⟨s'.toNat, by omega⟩ : Fin 8).val : Nat) : Int) = s' by simp; omega]
          exact he)
        simp at this
        omega
      have no : ∀ (s : Int), 0 ≤ s → s ≤ 7 → ∀ t, lackL s = 32 :: 43 :: t → False := by
        intro s s0 s7 t hc
        have hs := (lack_head ⟨s.toNat, by omega⟩).2
        rw [show (((⟨s.toNat, by omega⟩ : Fin 8).val : Nat) : Int) = s by simp; omega, hc] at hs
        exact hs (by simp)
      have ei' := dec_inj ei
      have ev' := dec_inj ev
      by_cases hu : u = 0
      · rw [if_pos hu] at e5
        by_cases hu' : u' = 0
        · rw [if_pos hu'] at e5
          have := li r r' (by omega) (by omega) (by omega) (by omega) (by simpa using e5)
          omega
        · rw [if_neg hu'] at e5
          exact absurd (by simpa using e5) (no r (by omega) (by omega) _)
      · rw [if_neg hu] at e5
        by_cases hu' : u' = 0
        · rw [if_pos hu'] at e5
          exact absurd (by simpa using e5.symm) (no r' (by omega) (by omega) _)
        · rw [if_neg hu'] at e5
          injection e5 with _ e6
          injection e6 with _ e7
          obtain ⟨eu, e8⟩ := span_inj (P := isDig) (dec_digs u) (dec_digs u') (lk r (by omega) (by omega)) (lk r' (by omega) (by omega)) e7
          have := li r r' (by omega) (by omega) (by omega) (by omega) e8
          have := dec_inj eu
          omega
theorem txB_inj {k0 k1 k2 k3 k4 l0 l1 l2 l3 l4 : Int} (h : rightB k0 k1 k2 k3 k4 = true) (h' : rightB l0 l1 l2 l3 l4 = true) (g : 0 ≤ k4) (g' : 0 ≤ l4) (e : txB k0 k1 k2 k3 k4 = txB l0 l1 l2 l3 l4) : sameB k0 k1 k2 k3 k4 l0 l1 l2 l3 l4 = true := by
  have b := right_bounds h
  have b' := right_bounds h'
  obtain ⟨n0, rfl⟩ : ∃ n : Nat, k0 = n := ⟨k0.toNat, by omega⟩
  obtain ⟨n1, rfl⟩ : ∃ n : Nat, k1 = n := ⟨k1.toNat, by omega⟩
  obtain ⟨n2, rfl⟩ : ∃ n : Nat, k2 = n := ⟨k2.toNat, by omega⟩
  obtain ⟨n4, rfl⟩ : ∃ n : Nat, k4 = n := ⟨k4.toNat, by omega⟩
  obtain ⟨m0, rfl⟩ : ∃ n : Nat, l0 = n := ⟨l0.toNat, by omega⟩
  obtain ⟨m1, rfl⟩ : ∃ n : Nat, l1 = n := ⟨l1.toNat, by omega⟩
  obtain ⟨m2, rfl⟩ : ∃ n : Nat, l2 = n := ⟨l2.toNat, by omega⟩
  obtain ⟨m4, rfl⟩ : ∃ n : Nat, l4 = n := ⟨l4.toNat, by omega⟩
  have e' : txL n0 n1 n2 k3 n4 = txL m0 m1 m2 l3 m4 := by rw [← txB_list, ← txB_list, e]
  obtain ⟨rfl, rfl, rfl, rfl, rfl⟩ := tx_inj h h' e'
  simp [sameB]
theorem same_eq {k0 k1 k2 k3 k4 l0 l1 l2 l3 l4 : Int} (h : sameB k0 k1 k2 k3 k4 l0 l1 l2 l3 l4 = true) : k0 = l0 ∧ k1 = l1 ∧ k2 = l2 ∧ k3 = l3 ∧ k4 = l4 := by
  simp [sameB] at h
  exact ⟨h.1, h.2.1, h.2.2.1, h.2.2.2.1, h.2.2.2.2⟩
theorem txB_eq_iff {k0 k1 k2 k3 k4 l0 l1 l2 l3 l4 : Int} (h : rightB k0 k1 k2 k3 k4 = true) (h' : rightB l0 l1 l2 l3 l4 = true) (g : 0 ≤ k4) (g' : 0 ≤ l4) : (txB k0 k1 k2 k3 k4 = txB l0 l1 l2 l3 l4) ↔ sameB k0 k1 k2 k3 k4 l0 l1 l2 l3 l4 = true :=
  ⟨txB_inj h h' g g', fun e => by obtain ⟨rfl, rfl, rfl, rfl, rfl⟩ := same_eq e; rfl⟩
theorem words_eq_iff {k0 k1 k2 k3 k4 l0 l1 l2 l3 l4 : Int} (h : rightB k0 k1 k2 k3 k4 = true) (h' : rightB l0 l1 l2 l3 l4 = true) (g : 0 ≤ k4) (g9 : k4 ≤ 4294967295) (g' : 0 ≤ l4) (g9' : l4 ≤ 4294967295) : (packLo k0 k1 k2 = packLo l0 l1 l2 ∧ packHi k3 k4 = packHi l3 l4) ↔ sameB k0 k1 k2 k3 k4 l0 l1 l2 l3 l4 = true := by
  constructor
  · intro ⟨e1, e2⟩
    obtain ⟨p, -⟩ := parts_of_pack h g g9
    obtain ⟨p', -⟩ := parts_of_pack h' g' g9'
    rw [e1, e2] at p
    unfold Parts at p p'
    have : k0 = l0 ∧ k1 = l1 ∧ k2 = l2 ∧ k3 = l3 ∧ k4 = l4 := by omega
    obtain ⟨rfl, rfl, rfl, rfl, rfl⟩ := this
    simp [sameB]
  · intro e; obtain ⟨rfl, rfl, rfl, rfl, rfl⟩ := same_eq e; exact ⟨rfl, rfl⟩
end Go.Proofs.YtggnaalcdekccaaDoor
