/-
  Unlike right instructions have unlike texts and words: plain mathematics.
-/
import Derived.Test.YtaekccgcnlepaaaGreatDoorCodeS
namespace Go.Proofs.YtaekccgcnlepaaaGreatDoor
set_option linter.unusedVariables false
theorem span_inj {P : UInt8 → Bool} : ∀ {a b x y : List UInt8}, (∀ c ∈ a, P c = true) → (∀ c ∈ b, P c = true) → (∀ c t, x = c :: t → P c = false) → (∀ c t, y = c :: t → P c = false) → a ++ x = b ++ y → a = b ∧ x = y
  | [], [], x, y, _, _, _, _, h => ⟨rfl, by simpa using h⟩
  | [], c :: b, x, y, _, hb, hx, _, h => by
    have h1 := hx c (b ++ y) (by simpa using h)
    rw [hb c (by simp)] at h1
    exact absurd h1 (by decide)
  | c :: a, [], x, y, ha, _, _, hy, h => by
    have h1 := hy c (a ++ x) (by simpa using h.symm)
    rw [ha c (by simp)] at h1
    exact absurd h1 (by decide)
  | c :: a, d :: b, x, y, ha, hb, hx, hy, h => by
    simp only [List.cons_append, List.cons.injEq] at h
    obtain ⟨e1, e2⟩ := span_inj (a := a) (b := b) (fun c hc => ha c (by simp [hc])) (fun c hc => hb c (by simp [hc])) hx hy h.2
    exact ⟨by rw [h.1, e1], e2⟩
def isDig (c : UInt8) : Bool := 48 ≤ c && c ≤ 57
theorem dig_fin : ∀ d : Fin 10, isDig (UInt8.ofNat (48 + d.val)) = true ∧ (UInt8.ofNat (48 + d.val)).toNat - 48 = d.val := by decide
theorem dec_digs (u : Nat) : ∀ c ∈ Lib.decDigits u, isDig c = true := by
  induction u using Nat.strongRecOn with
  | _ u ih =>
    intro c hc
    rw [Lib.decDigits] at hc
    split at hc
    · rename_i h
      rw [List.mem_singleton.1 hc]
      exact (dig_fin ⟨u, h⟩).1
    · rename_i h
      rcases List.mem_append.1 hc with h1 | h1
      · exact ih (u / 10) (by omega) c h1
      · rw [List.mem_singleton.1 h1]
        exact (dig_fin ⟨u % 10, Nat.mod_lt _ (by decide)⟩).1
def decVal (l : List UInt8) : Nat := l.foldl (fun n c => 10 * n + (c.toNat - 48)) 0
theorem decVal_dec (u : Nat) : decVal (Lib.decDigits u) = u := by
  induction u using Nat.strongRecOn with
  | _ u ih =>
    rw [Lib.decDigits]
    split
    · rename_i h
      have := (dig_fin ⟨u, h⟩).2
      simpa [decVal] using this
    · rename_i h
      have h1 := (dig_fin ⟨u % 10, Nat.mod_lt _ (by decide)⟩).2
      have h2 := ih (u / 10) (by omega)
      unfold decVal at h2 ⊢
      rw [List.foldl_append, h2]
      simp only [List.foldl_cons, List.foldl_nil]
      simp only at h1
      rw [h1]
      omega
theorem dec_inj {u v : Nat} (h : Lib.decDigits u = Lib.decDigits v) : u = v := by rw [← decVal_dec u, h, decVal_dec]
theorem fnames_letters : ∀ j : Fin 14, ∀ c ∈ fNm.getD j.val [], (c != 32) = true := by decide +kernel
theorem fnames_inj : ∀ j j' : Fin 14, 1 ≤ j.val → 1 ≤ j'.val → fNm.getD j.val [] = fNm.getD j'.val [] → j = j' := by decide +kernel
theorem wn_letters : ∀ j : Fin 12, ∀ c ∈ wNm.getD j.val [], (c != 32) = true := by decide +kernel
theorem wn_inj : ∀ j j' : Fin 12, wNm.getD j.val [] = wNm.getD j'.val [] → j = j' := by decide +kernel
theorem mn_letters : ∀ j : Fin 3, ∀ c ∈ mNm.getD j.val [], (c != 32) = true := by decide +kernel
theorem mn_inj : ∀ j j' : Fin 3, mNm.getD j.val [] = mNm.getD j'.val [] → j = j' := by decide +kernel
theorem dig_no (u : Nat) : ∀ c ∈ Lib.decDigits u, (c != 32) = true := by
  intro c hc
  have := dec_digs u c hc
  unfold isDig at this
  simp only [Bool.and_eq_true, decide_eq_true_eq] at this
  rw [bne_iff_ne]
  rintro rfl
  exact absurd this.1 (by decide)
/-- What a field's text begins with: nothing, or a blank. -/
def Blank (l : List UInt8) : Prop := ∀ c t, l = c :: t → (c != 32) = false
theorem blank_nil : Blank [] := fun c t h => absurd h (by simp)
theorem blank_cons (l : List UInt8) : Blank (32 :: l) := fun c t h => by injection h with e _; rw [← e]; rfl
theorem tell_split {x x' : Nat} {f : Int} {R R' : List UInt8} (h : fitB x f = true) (h' : fitB x' f = true) (hR : Blank R) (hR' : Blank R') (e : tellL x f ++ R = tellL x' f ++ R') : x = x' ∧ R = R' := by
  simp only [fitB, decide_eq_true_eq] at h h'
  unfold tellL at e
  simp only [Int.toNat_natCast] at e
  by_cases h1 : f = 1
  · rw [if_pos h1, if_pos h1] at e
    injection e with _ e; injection e with _ e
    obtain ⟨a, b⟩ := span_inj (P := fun c => c != 32) (dig_no x) (dig_no x') hR hR' e
    exact ⟨dec_inj a, b⟩
  rw [if_neg h1, if_neg h1] at e
  by_cases h2 : f = 2
  · rw [if_pos h2, if_pos h2] at e
    injection e with _ e; injection e with _ e
    obtain ⟨a, b⟩ := span_inj (P := fun c => c != 32) (dig_no x) (dig_no x') hR hR' e
    exact ⟨dec_inj a, b⟩
  rw [if_neg h2, if_neg h2] at e
  by_cases h3 : f = 3
  · rw [if_pos h3, if_pos h3] at e
    injection e with _ e
    obtain ⟨a, b⟩ := span_inj (P := fun c => c != 32) (dig_no x) (dig_no x') hR hR' e
    exact ⟨dec_inj a, b⟩
  rw [if_neg h3, if_neg h3] at e
  unfold hiOf at h h'
  rw [if_neg h1, if_neg h2, if_neg h3] at h h'
  by_cases h4 : f = 4
  · rw [if_pos h4, if_pos h4] at e
    rw [if_pos h4] at h h'
    injection e with _ e
    obtain ⟨a, b⟩ := span_inj (P := fun c => c != 32) (wn_letters ⟨x, by omega⟩) (wn_letters ⟨x', by omega⟩) hR hR' e
    have := wn_inj ⟨x, by omega⟩ ⟨x', by omega⟩ a
    exact ⟨by simpa using this, b⟩
  rw [if_neg h4, if_neg h4] at e
  rw [if_neg h4] at h h'
  by_cases h5 : f = 5
  · rw [if_pos h5, if_pos h5] at e
    rw [if_pos h5] at h h'
    injection e with _ e
    obtain ⟨a, b⟩ := span_inj (P := fun c => c != 32) (mn_letters ⟨x, by omega⟩) (mn_letters ⟨x', by omega⟩) hR hR' e
    have := mn_inj ⟨x, by omega⟩ ⟨x', by omega⟩ a
    exact ⟨by simpa using this, b⟩
  rw [if_neg h5, if_neg h5] at e
  rw [if_neg h5] at h h'
  exact ⟨by omega, by simpa using e⟩
theorem tell_blank (x : Nat) (f : Int) (R : List UInt8) (hR : Blank R) : Blank (tellL x f ++ R) := by
  unfold tellL
  repeat' split
  all_goals first | exact blank_cons _ | simpa using hR
/-- The text of a right instruction, as a list of bytes. -/
def txC (n a b c i : Nat) : List UInt8 :=
  fNm.getD n [] ++ (if n = 3 then tellL i (fI.getD 3 0) ++ (tellL a (fA.getD 3 0) ++ (tellL b (fB.getD 3 0) ++ (tellL c (fC.getD 3 0) ++ []))) else tellL a (fA.getD n 0) ++ (tellL b (fB.getD n 0) ++ (tellL c (fC.getD n 0) ++ (tellL i (fI.getD n 0) ++ []))))
theorem textC_list (n a b c i : Nat) : (textC n a b c i).data.toList = txC n a b c i := by
  unfold textC txC
  by_cases h : n = 3
  · subst h
    rw [if_pos (by rfl), if_pos rfl]
    simp only [ba_list]
    simp [nmC, tellB]
  · rw [if_neg (by omega), if_neg h]
    simp only [ba_list]
    simp [nmC, tellB]
theorem txC_inj {n a b c i n' a' b' c' i' : Nat} (h : okB n a b c i = true) (h' : okB n' a' b' c' i' = true) (e : txC n a b c i = txC n' a' b' c' i') : n = n' ∧ a = a' ∧ b = b' ∧ c = c' ∧ i = i' := by
  have g := ok_bounds h
  have g' := ok_bounds h'
  obtain ⟨p1, p2, p3, p4⟩ := ok_parts h
  obtain ⟨q1, q2, q3, q4⟩ := ok_parts h'
  unfold txC at e
  have bl : ∀ (n a b c i : Nat), Blank (if n = 3 then tellL i (fI.getD 3 0) ++ (tellL a (fA.getD 3 0) ++ (tellL b (fB.getD 3 0) ++ (tellL c (fC.getD 3 0) ++ []))) else tellL a (fA.getD n 0) ++ (tellL b (fB.getD n 0) ++ (tellL c (fC.getD n 0) ++ (tellL i (fI.getD n 0) ++ [])))) := by
    intro n a b c i
    split <;> exact tell_blank _ _ _ (tell_blank _ _ _ (tell_blank _ _ _ (tell_blank _ _ _ blank_nil)))
  obtain ⟨en, e⟩ := span_inj (P := fun c => c != 32) (fnames_letters ⟨n, by omega⟩) (fnames_letters ⟨n', by omega⟩) (bl n a b c i) (bl n' a' b' c' i') e
  have : n = n' := by
    have := fnames_inj ⟨n, by omega⟩ ⟨n', by omega⟩ (by simp; omega) (by simp; omega) en
    simpa using this
  subst this
  clear bl en
  by_cases h3 : n = 3
  · subst h3
    rw [if_pos rfl, if_pos rfl] at e
    obtain ⟨r1, e⟩ := tell_split p4 q4 (tell_blank _ _ _ (tell_blank _ _ _ (tell_blank _ _ _ blank_nil))) (tell_blank _ _ _ (tell_blank _ _ _ (tell_blank _ _ _ blank_nil))) e
    obtain ⟨r2, e⟩ := tell_split p1 q1 (tell_blank _ _ _ (tell_blank _ _ _ blank_nil)) (tell_blank _ _ _ (tell_blank _ _ _ blank_nil)) e
    obtain ⟨r3, e⟩ := tell_split p2 q2 (tell_blank _ _ _ blank_nil) (tell_blank _ _ _ blank_nil) e
    obtain ⟨r4, -⟩ := tell_split p3 q3 blank_nil blank_nil e
    exact ⟨rfl, r2, r3, r4, r1⟩
  · rw [if_neg h3, if_neg h3] at e
    obtain ⟨r1, e⟩ := tell_split p1 q1 (tell_blank _ _ _ (tell_blank _ _ _ (tell_blank _ _ _ blank_nil))) (tell_blank _ _ _ (tell_blank _ _ _ (tell_blank _ _ _ blank_nil))) e
    obtain ⟨r2, e⟩ := tell_split p2 q2 (tell_blank _ _ _ (tell_blank _ _ _ blank_nil)) (tell_blank _ _ _ (tell_blank _ _ _ blank_nil)) e
    obtain ⟨r3, e⟩ := tell_split p3 q3 (tell_blank _ _ _ blank_nil) (tell_blank _ _ _ blank_nil) e
    obtain ⟨r4, -⟩ := tell_split p4 q4 blank_nil blank_nil e
    exact ⟨rfl, r1, r2, r3, r4⟩
theorem sameC_eq {k0 k1 k2 k3 k4 l0 l1 l2 l3 l4 : Int} (h : sameC k0 k1 k2 k3 k4 l0 l1 l2 l3 l4 = true) : k0 = l0 ∧ k1 = l1 ∧ k2 = l2 ∧ k3 = l3 ∧ k4 = l4 := by
  simp [sameC] at h
  exact ⟨h.1, h.2.1, h.2.2.1, h.2.2.2.1, h.2.2.2.2⟩
theorem textC_iff {k0 k1 k2 k3 k4 l0 l1 l2 l3 l4 : Int} (h : okB k0 k1 k2 k3 k4 = true) (h' : okB l0 l1 l2 l3 l4 = true) : textC k0 k1 k2 k3 k4 = textC l0 l1 l2 l3 l4 ↔ sameC k0 k1 k2 k3 k4 l0 l1 l2 l3 l4 = true := by
  constructor
  · intro e
    have b := ok_bounds h
    have b' := ok_bounds h'
    obtain ⟨n0, rfl⟩ : ∃ n : Nat, k0 = n := ⟨k0.toNat, by omega⟩
    obtain ⟨n1, rfl⟩ : ∃ n : Nat, k1 = n := ⟨k1.toNat, by omega⟩
    obtain ⟨n2, rfl⟩ : ∃ n : Nat, k2 = n := ⟨k2.toNat, by omega⟩
    obtain ⟨n3, rfl⟩ : ∃ n : Nat, k3 = n := ⟨k3.toNat, by omega⟩
    obtain ⟨n4, rfl⟩ : ∃ n : Nat, k4 = n := ⟨k4.toNat, by omega⟩
    obtain ⟨m0, rfl⟩ : ∃ n : Nat, l0 = n := ⟨l0.toNat, by omega⟩
    obtain ⟨m1, rfl⟩ : ∃ n : Nat, l1 = n := ⟨l1.toNat, by omega⟩
    obtain ⟨m2, rfl⟩ : ∃ n : Nat, l2 = n := ⟨l2.toNat, by omega⟩
    obtain ⟨m3, rfl⟩ : ∃ n : Nat, l3 = n := ⟨l3.toNat, by omega⟩
    obtain ⟨m4, rfl⟩ : ∃ n : Nat, l4 = n := ⟨l4.toNat, by omega⟩
    have e' : txC n0 n1 n2 n3 n4 = txC m0 m1 m2 m3 m4 := by rw [← textC_list, ← textC_list, e]
    obtain ⟨rfl, rfl, rfl, rfl, rfl⟩ := txC_inj h h' e'
    simp [sameC]
  · intro e; obtain ⟨rfl, rfl, rfl, rfl, rfl⟩ := sameC_eq e; rfl
theorem wordC_iff {k0 k1 k2 k3 k4 l0 l1 l2 l3 l4 : Int} (h : okB k0 k1 k2 k3 k4 = true) (h' : okB l0 l1 l2 l3 l4 = true) : wordC k0 k1 k2 k3 k4 = wordC l0 l1 l2 l3 l4 ↔ sameC k0 k1 k2 k3 k4 l0 l1 l2 l3 l4 = true := by
  constructor
  · intro e
    have p := (partsC_of h).1
    have p' := (partsC_of h').1
    rw [e] at p
    unfold PartsC at p p'
    have : k0 = l0 ∧ k1 = l1 ∧ k2 = l2 ∧ k3 = l3 ∧ k4 = l4 := by omega
    obtain ⟨rfl, rfl, rfl, rfl, rfl⟩ := this
    simp [sameC]
  · intro e; obtain ⟨rfl, rfl, rfl, rfl, rfl⟩ := sameC_eq e; rfl
end Go.Proofs.YtaekccgcnlepaaaGreatDoor
