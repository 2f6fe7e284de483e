/-
  Words apart by spaces: what strings.FieldsFunc answers, as a function of the bytes.
-/
import Derived.Lib.SpaceUEq
import Derived.Lib.FieldsP
import Derived.Lib.OthersKept
namespace Go.Proofs.YtaekccgcnlepaaaGreatDoor
set_option linter.unusedVariables false
set_option linter.unusedSimpArgs false
/-- The words of a row of bytes; cur: what is there of the next. -/
def splitFrom (cur : List UInt8) : List UInt8 → List (List UInt8)
  | [] => if cur = [] then [] else [cur]
  | b :: r => if b = 32 then (if cur = [] then splitFrom [] r else cur :: splitFrom [] r) else splitFrom (cur ++ [b]) r
def tokL (s : ByteArray) : List (List UInt8) := splitFrom [] s.data.toList
def tokB (s : ByteArray) : List ByteArray := (tokL s).map fun l => ⟨l.toArray⟩
theorem ba_get (s : ByteArray) (i : Nat) (h : i < s.size) : s.data.toList[i]? = some (s[i]'h) := by
  have h' : i < s.data.size := h
  rw [Array.getElem?_toList, Array.getElem?_eq_getElem h']
  rfl
theorem ba_bang (s : ByteArray) (i : Nat) (h : i < s.size) : s.get! i = s[i]'h := by
  have h' : i < s.data.size := h
  show s.data[i]! = _
  simp only [getElem!_pos s.data i h']
  rfl
theorem split_end {cur : List UInt8} (h : cur ≠ []) : splitFrom cur [] = [cur] := by rw [splitFrom, if_neg h]
theorem split_space {cur : List UInt8} (h : cur ≠ []) (r : List UInt8) : splitFrom cur (32 :: r) = cur :: splitFrom [] r := by rw [splitFrom, if_pos rfl, if_neg h]
/-- Bytes of which none is a space. -/
theorem split_skip (xs r : List UInt8) (hx : ∀ b ∈ xs, b ≠ 32) : ∀ cur, splitFrom cur (xs ++ r) = splitFrom (cur ++ xs) r := by
  induction xs with
  | nil => intro cur; simp
  | cons b xs ih =>
    intro cur
    have hb := hx b (by simp)
    show splitFrom cur (b :: (xs ++ r)) = _
    rw [splitFrom, if_neg hb, ih (fun c hc => hx c (by simp [hc]))]
    simp
theorem decodeN_four (n b0 b1 b2 b3 : Nat) (h : (Lib.decodeN n b0 b1 b2 b3).2 = 4) : b0 / 8 = 30 ∧ b1 / 64 = 2 ∧ b2 / 64 = 2 ∧ b3 / 64 = 2 ∧ 3 < n := by
  unfold Lib.decodeN at h
  repeat' split at h
  all_goals first
    | exact absurd h (by decide)
    | (exfalso; simp at h; done)
    | omega
/-- The bytes of a rune that is no space; a space is one byte. -/
theorem decode_bytes (s : ByteArray) (i : Nat) (h : i < s.size) :
    1 ≤ (Utf8.decode s i).2 ∧ i + (Utf8.decode s i).2 ≤ s.size ∧
    (((Utf8.decode s i).1 = 32 → (Utf8.decode s i).2 = 1 ∧ s.data.toList[i]? = some 32) ∧
     ((Utf8.decode s i).1 ≠ 32 → ∀ j, j < (Utf8.decode s i).2 → ∀ b, s.data.toList[i + j]? = some b → b ≠ 32)) := by
  have hb0 : (s.get! i).toNat < 256 := UInt8.toNat_lt _
  have hle := Lib.decodeN_le_n' (s.size - i) (s.get! i).toNat (s.get! (i + 1)).toNat (s.get! (i + 2)).toNat (s.get! (i + 3)).toNat (by omega)
  have hg0 := ba_get s i h
  rw [← ba_bang s i h] at hg0
  have hat : ∀ j, 1 ≤ j → j < s.size - i → s.data.toList[i + j]? = some (s.get! (i + j)) := fun j _ hj => by
    rw [ba_get s (i + j) (by omega), ba_bang s (i + j) (by omega)]
  have n32 : ∀ c : UInt8, c.toNat ≠ 32 → c ≠ 32 := fun c hc e => hc (by rw [e]; rfl)
  have e32 : ∀ c : UInt8, c.toNat = 32 → c = 32 := fun c hc => UInt8.toNat_inj.1 (by rw [hc]; rfl)
  rw [Lib.decode_at]
  rcases Lib.decodeN_cases (s.size - i) (s.get! i).toNat (s.get! (i + 1)).toNat (s.get! (i + 2)).toNat (s.get! (i + 3)).toNat with ⟨c, e⟩ | ⟨c1, c2, c3, cv, e⟩ | ⟨c1, c2, c3, c4, cv, e⟩ | ⟨c, e⟩ | e
  · rw [e] at hle ⊢
    refine ⟨Nat.le_refl 1, by simp only at hle ⊢; omega, fun h32 => ⟨rfl, ?_⟩, fun h32 j hj b hb => ?_⟩
    · rw [hg0, e32 _ h32]
    · obtain rfl : j = 0 := by simp only at hj; omega
      rw [Nat.add_zero, hg0] at hb
      injection hb with hb
      rw [← hb]
      exact n32 _ h32
  · rw [e] at hle ⊢
    refine ⟨by show 1 ≤ _; omega, by simp only at hle ⊢; omega, fun h32 => ?_, fun h32 j hj b hb => ?_⟩
    · simp only at h32; omega
    · simp only at hj
      rcases (show j = 0 ∨ j = 1 by omega) with rfl | rfl
      · rw [Nat.add_zero, hg0] at hb
        injection hb with hb
        rw [← hb]
        exact n32 _ (by omega)
      · rw [hat 1 (by decide) (by omega)] at hb
        injection hb with hb
        rw [← hb]
        exact n32 _ (by omega)
  · rw [e] at hle ⊢
    refine ⟨by show 1 ≤ _; omega, by simp only at hle ⊢; omega, fun h32 => ?_, fun h32 j hj b hb => ?_⟩
    · simp only at h32; omega
    · simp only at hj
      rcases (show j = 0 ∨ j = 1 ∨ j = 2 by omega) with rfl | rfl | rfl
      · rw [Nat.add_zero, hg0] at hb
        injection hb with hb
        rw [← hb]
        exact n32 _ (by omega)
      · rw [hat 1 (by decide) (by omega)] at hb
        injection hb with hb
        rw [← hb]
        exact n32 _ (by omega)
      · rw [hat 2 (by decide) (by omega)] at hb
        injection hb with hb
        rw [← hb]
        exact n32 _ (by omega)
  · obtain ⟨d0, d1, d2, d3, d4⟩ := decodeN_four _ _ _ _ _ e
    refine ⟨by omega, by omega, fun h32 => by omega, fun h32 j hj b hb => ?_⟩
    rw [e] at hj
    rcases (show j = 0 ∨ j = 1 ∨ j = 2 ∨ j = 3 by omega) with rfl | rfl | rfl | rfl
    · rw [Nat.add_zero, hg0] at hb
      injection hb with hb
      rw [← hb]
      exact n32 _ (by omega)
    · rw [hat 1 (by decide) (by omega)] at hb
      injection hb with hb
      rw [← hb]
      exact n32 _ (by omega)
    · rw [hat 2 (by decide) (by omega)] at hb
      injection hb with hb
      rw [← hb]
      exact n32 _ (by omega)
    · rw [hat 3 (by decide) (by omega)] at hb
      injection hb with hb
      rw [← hb]
      exact n32 _ (by omega)
  · rw [e] at hle ⊢
    refine ⟨Nat.le_refl 1, by simp only at hle ⊢; omega, fun h32 => ?_, fun h32 j hj b hb => ?_⟩
    · simp only at h32; omega
    · obtain rfl : j = 0 := by simp only at hj; omega
      rw [Nat.add_zero, hg0] at hb
      injection hb with hb
      rw [← hb]
      intro e2
      have e3 : (s.get! i).toNat = 32 := by rw [e2]; rfl
      have : Lib.decodeN (s.size - i) (s.get! i).toNat (s.get! (i + 1)).toNat (s.get! (i + 2)).toNat (s.get! (i + 3)).toNat = (32, 1) := by
        rw [e3]; rfl
      rw [e] at this
      injection this with h1 h2
      omega
theorem take_drop_split (l : List UInt8) (i k : Nat) : l.drop i = (l.drop i).take k ++ l.drop (i + k) := by
  rw [← List.drop_drop, List.take_append_drop]
theorem extract_list (s : ByteArray) (a b : Nat) : (s.extract a b).data.toList = (s.data.toList.drop a).take (b - a) := by
  simp [ByteArray.data_extract, List.take_drop]
/-- What is there of a word whose span is open. -/
def curOf (s : ByteArray) (st : Option Nat) (pos : Nat) : List UInt8 := match st with | some a => (s.data.toList.drop a).take (pos - a) | none => []
theorem curOf_none (s : ByteArray) (pos : Nat) : curOf s none pos = [] := rfl
theorem curOf_some (s : ByteArray) (a pos : Nat) : curOf s (some a) pos = (s.data.toList.drop a).take (pos - a) := rfl
theorem take_more (l : List UInt8) (a p k : Nat) (h : a ≤ p) (hp : p ≤ l.length) : (l.drop a).take (p + k - a) = (l.drop a).take (p - a) ++ (l.drop p).take k := by
  have e : p + k - a = (p - a) + k := by omega
  rw [e, List.take_add, List.drop_drop, show a + (p - a) = p by omega]
theorem ba_len (s : ByteArray) : s.data.toList.length = s.size := by rw [Array.length_toList]; rfl
theorem spans_end (s : ByteArray) (st : Option Nat) (acc : List (Nat × Nat)) (h : ∀ a, st = some a → a < s.size) :
    (Lib.closeSpans s (acc, st)).map (fun x => (s.extract x.1 x.2).data.toList) = acc.map (fun x => (s.extract x.1 x.2).data.toList) ++ splitFrom (curOf s st s.size) [] := by
  cases st with
  | none =>
    rw [curOf_none, show splitFrom [] [] = [] from rfl, List.append_nil]
    rfl
  | some a =>
    have ha := h a rfl
    have hne : (s.data.toList.drop a).take (s.size - a) ≠ [] := by
      intro e
      have := congrArg List.length e
      simp [ba_len] at this
      have h2 : s.data.size = s.size := rfl
      omega
    rw [curOf_some, split_end hne, ← extract_list]
    simp only [Lib.closeSpans, List.map_append, List.map_cons, List.map_nil]
/-- What the spans are. -/
theorem spans_split (s : ByteArray) (p : Nat → Bool) (hp : ∀ r, p r = decide (r = 32)) : ∀ (f pos : Nat) (st : Option Nat) (acc : List (Nat × Nat)), s.size ≤ pos + f → pos ≤ s.size → (∀ a, st = some a → a < pos) →
    (Lib.closeSpans s (Lib.spansFromP p s f pos st acc)).map (fun x => (s.extract x.1 x.2).data.toList) = acc.map (fun x => (s.extract x.1 x.2).data.toList) ++ splitFrom (curOf s st pos) (s.data.toList.drop pos) := by
  intro f
  induction f with
  | zero =>
    intro pos st acc h1 h2 h3
    obtain rfl : pos = s.size := by omega
    rw [Lib.spansFromP, List.drop_of_length_le (by rw [ba_len]; exact Nat.le_refl _)]
    exact spans_end s st acc h3
  | succ f ih =>
    intro pos st acc h1 h2 h3
    by_cases hlt : pos < s.size
    · obtain ⟨k1, k2, k3, k4⟩ := decode_bytes s pos hlt
      obtain ⟨R, hR⟩ : ∃ R, (Utf8.decode s pos).1 = R := ⟨_, rfl⟩
      obtain ⟨K, hK⟩ : ∃ K, (Utf8.decode s pos).2 = K := ⟨_, rfl⟩
      rw [hR] at k3 k4
      rw [hK] at k1 k2 k3 k4
      simp only [Lib.spansFromP, hlt, if_true, hR, hK, hp]
      by_cases h32 : R = 32
      · obtain ⟨e1, e2⟩ := k3 h32
        subst e1
        have hd : s.data.toList.drop pos = 32 :: s.data.toList.drop (pos + 1) := by
          obtain ⟨hp2, e3⟩ := List.getElem?_eq_some_iff.1 e2
          rw [List.drop_eq_getElem_cons hp2, e3]
        simp only [h32, decide_true, if_true]
        cases st with
        | none =>
          simp only
          rw [ih (pos + 1) none acc (by omega) (by omega) (fun a h => by cases h), hd]
          simp only [splitFrom, curOf_none, if_true]
        | some a =>
          have ha := h3 a rfl
          have hne : (s.data.toList.drop a).take (pos - a) ≠ [] := by
            intro e
            have := congrArg List.length e
            simp [ba_len] at this
            have h2 : s.data.size = s.size := rfl
            omega
          simp only
          rw [ih (pos + 1) none _ (by omega) (by omega) (fun a h => by cases h), hd]
          rw [curOf_none, curOf_some, split_space hne, ← extract_list]
          simp only [List.map_append, List.map_cons, List.map_nil, List.append_assoc, List.singleton_append]
      · have k5 := k4 h32
        have hx : ∀ b ∈ (s.data.toList.drop pos).take K, b ≠ 32 := fun b hb => by
          obtain ⟨j, hj, e⟩ := List.mem_iff_getElem.1 hb
          simp at hj
          refine k5 j (by omega) b ?_
          rw [← e]
          simp [List.getElem?_eq_getElem (show pos + j < s.data.toList.length by simp; omega)]
        have hd := take_drop_split s.data.toList pos K
        rw [decide_eq_false h32]
        simp only [Bool.false_eq_true, if_false]
        cases st with
        | none =>
          simp only
          rw [ih (pos + K) (some pos) acc (by omega) (by omega) (fun a h => by cases h; omega), curOf_none, curOf_some, show pos + K - pos = K by omega]
          conv => rhs; rw [hd, split_skip _ _ hx, List.nil_append]
        | some a =>
          have ha := h3 a rfl
          simp only
          rw [ih (pos + K) (some a) acc (by omega) (by omega) (fun b h => by cases h; omega), curOf_some, curOf_some, take_more _ a pos K (by omega) (by rw [ba_len]; omega)]
          conv => rhs; rw [hd, split_skip _ _ hx]
    · obtain rfl : pos = s.size := by omega
      rw [Lib.spansFromP_end _ _ _ _ _ _ hlt, List.drop_of_length_le (by rw [ba_len]; exact Nat.le_refl _)]
      exact spans_end s st acc h3
theorem fields_tok (s : ByteArray) (p : Nat → Bool) (hp : ∀ r, p r = decide (r = 32)) : Lib.goFieldsP p s = tokB s := by
  have h := spans_split s p hp s.size 0 none [] (by omega) (by omega) (fun a h => by cases h)
  simp only [List.map_nil, List.nil_append, List.drop_zero, curOf_none] at h
  unfold tokB tokL
  rw [← h, List.map_map]
  rfl
end Go.Proofs.YtaekccgcnlepaaaGreatDoor
