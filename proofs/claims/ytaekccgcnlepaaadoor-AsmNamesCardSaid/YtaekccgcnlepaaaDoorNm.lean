/-
  The lines of AsmNames, and what they come to.
-/
import Derived.Test.YtaekccgcnlepaaaDoorWr
namespace Go.Proofs.YtaekccgcnlepaaaDoor
open Go.ChangeShapes Go.WideShapes Go.ChangeAt Go.RowKit Go.Maps
set_option linter.unusedVariables false
set_option linter.unusedSimpArgs false
def yS : ByteArray := ⟨#[121, 105, 101, 108, 100]⟩
def zS : ByteArray := ⟨#[106, 122, 32, 114, 51, 32, 104, 101, 114, 101]⟩
def jS : ByteArray := ⟨#[106, 109, 112, 32, 116, 104, 101, 114, 101]⟩
def hS : ByteArray := ⟨#[35, 32, 104, 101, 114, 101]⟩
def nS : ByteArray := ⟨#[104, 101, 114, 101, 58]⟩
def eS : ByteArray := ⟨#[]⟩
def hereL : List UInt8 := [104, 101, 114, 101]
def blk3 : List ByteArray := [hS, nS, eS]
/-- The lines, as far as they are written. -/
def preL (z : ByteArray) (a f : Nat) : Nat → List ByteArray
  | 0 => []
  | k + 1 => preL z a f k ++ (if k = a then blk3 else []) ++ [if k = f then z else yS]
def finL (z : ByteArray) (a f n : Nat) : List ByteArray := preL z a f n ++ (if n = a then blk3 else [])
theorem preL_len (z : ByteArray) (a f k : Nat) : (preL z a f k).length = k + (if a < k then 3 else 0) := by
  induction k with
  | zero => simp [preL]
  | succ k ih =>
    rw [preL, List.length_append, List.length_append, ih, List.length_singleton]
    by_cases h : k = a
    · subst h
      simp [blk3]
    · rw [if_neg h]
      by_cases h2 : a < k
      · rw [if_pos h2, if_pos (by omega)]; first | (simp; done) | (simp; omega)
      · rw [if_neg h2, if_neg (by omega)]; first | (simp; done) | (simp; omega)
def FA (a : Nat) : LF := labU (fun _ => none) hereL ((a : Int) + 1) (a : Int)
theorem gaAll_append (l1 l2 : List ByteArray) : ∀ (line : Nat) (st : Nat × LF), gaAll line st (l1 ++ l2) = gaAll (line + l1.length) (gaAll line st l1) l2 := by
  induction l1 with
  | nil => intro line st; simp [gaAll]
  | cons x l1 ih =>
    intro line st
    show gaAll (line + 1) (gaStep line st x) (l1 ++ l2) = _
    rw [ih]
    show gaAll (line + 1 + l1.length) _ l2 = gaAll (line + (l1.length + 1)) _ l2
    rw [show line + 1 + l1.length = line + (l1.length + 1) by omega]
    rfl
theorem st_word (s : ByteArray) (h1 : silentL (tokB s) = false) (h2 : nmIn (tokB s) = none) (line : Nat) (st : Nat × LF) : gaStep line st s = (st.1 + 1, st.2) := by
  unfold gaStep
  rw [h1, if_neg (by simp), h2]
theorem st_none (s : ByteArray) (h1 : silentL (tokB s) = true) (line : Nat) (st : Nat × LF) : gaStep line st s = st := by
  unfold gaStep
  rw [h1, if_pos rfl]
theorem sil_y : silentL (tokB yS) = false ∧ nmIn (tokB yS) = none := by decide +kernel
theorem sil_z : silentL (tokB zS) = false ∧ nmIn (tokB zS) = none := by decide +kernel
theorem sil_j : silentL (tokB jS) = false ∧ nmIn (tokB jS) = none := by decide +kernel
theorem sil_h : silentL (tokB hS) = true ∧ silentL (tokB eS) = true := by decide +kernel
theorem sil_n : silentL (tokB nS) = false ∧ nmIn (tokB nS) = some hereL := by decide +kernel
theorem st_blk (line q : Nat) (hl : line = q) : gaAll line (q, fun _ => none) blk3 = (q, FA q) := by
  subst hl
  show gaStep (line + 1 + 1) (gaStep (line + 1) (gaStep line (line, fun _ => none) hS) nS) eS = _
  rw [st_none eS sil_h.2, st_none hS sil_h.1]
  unfold gaStep
  rw [sil_n.1, if_neg (by simp), sil_n.2]
  simp only [Option.isSome_none, Bool.false_eq_true, if_false]
  unfold FA
  rw [show ((line + 1 : Nat) : Int) = (line : Int) + 1 by omega]
theorem ga_pre (z : ByteArray) (hz : silentL (tokB z) = false ∧ nmIn (tokB z) = none) (a f k : Nat) : gaAll 0 (0, fun _ => none) (preL z a f k) = (k, if a < k then FA a else fun _ => none) := by
  induction k with
  | zero => rfl
  | succ k ih =>
    rw [preL, gaAll_append, gaAll_append, ih]
    have hw : ∀ line st, gaAll line st [if k = f then z else yS] = (st.1 + 1, st.2) := fun line st => by
      show gaStep line st _ = _
      by_cases h : k = f
      · rw [if_pos h]; exact st_word z hz.1 hz.2 line st
      · rw [if_neg h]; exact st_word yS sil_y.1 sil_y.2 line st
    rw [hw]
    by_cases h : k = a
    · subst h
      rw [if_pos rfl, if_neg (by omega), if_pos (by omega), st_blk _ k (by rw [preL_len, if_neg (by omega)]; omega)]
    · rw [if_neg h]
      show ((k, _).1 + 1, (k, _).2) = _
      by_cases h2 : a < k
      · rw [if_pos h2, if_pos (by omega)]
      · rw [if_neg h2, if_neg (by omega)]
theorem ga_fin (z : ByteArray) (hz : silentL (tokB z) = false ∧ nmIn (tokB z) = none) (a f n : Nat) (ha : a ≤ n) : gaAll 0 (0, fun _ => none) (finL z a f n) = (n, FA a) := by
  unfold finL
  rw [gaAll_append, ga_pre z hz]
  by_cases h : n = a
  · subst h
    rw [if_pos rfl, if_neg (by omega), st_blk _ n (by rw [preL_len, if_neg (by omega)]; omega)]
  · rw [if_neg h, if_pos (by omega)]
    rfl
theorem tx_append (F : LF) (l1 l2 : List ByteArray) : ∀ (line : Nat) (acc acc2 : List Int), txRun F line l1 acc = (acc2, none) → txRun F line (l1 ++ l2) acc = txRun F (line + l1.length) l2 acc2 := by
  induction l1 with
  | nil =>
    intro line acc acc2 h
    simp only [txRun, Prod.mk.injEq, and_true] at h
    subst h
    rfl
  | cons x l1 ih =>
    intro line acc acc2 h
    rw [List.cons_append]
    rw [txRun] at h ⊢
    obtain ⟨⟨⟨v, t⟩, o⟩, hw⟩ : ∃ y, wdV F line (tokB x) = y := ⟨_, rfl⟩
    rw [hw] at h ⊢
    cases o with
    | some e => simp at h
    | none =>
      simp only at h ⊢
      rw [ih _ _ _ h, List.length_cons, show line + 1 + l1.length = line + (l1.length + 1) by omega]
theorem wd_y (F : LF) (line : Nat) : wdV F line (tokB yS) = ((wordC 12 0 0 0 0, true), none) := by kernel_rfl
theorem par_z (a : Nat) : parN (FA a) (tokB zS) = insV 5 (([3], (a : Int)), none) := by kernel_rfl
theorem wd_z (a line : Nat) (ha : a ≤ 4095) : wdV (FA a) line (tokB zS) = ((wordC 5 3 0 0 a, true), none) := by
  have hok : okB 5 3 0 0 (a : Int) = true := by
    have h2 : fitB (a : Int) 3 = true := by unfold fitB hiOf; simp; omega
    unfold okB
    simp only [Bool.and_eq_true]
    refine ⟨by decide, by decide, by decide, by decide, ?_⟩
    exact h2
  unfold wdV
  rw [sil_z.1, if_neg (by simp), sil_z.2]
  simp only
  rw [if_neg (by decide +kernel), par_z]
  unfold insV
  simp only [List.getD_cons_zero, List.getD_cons_succ, List.getD_nil]
  rw [show ((5 : Nat) : Int) = 5 from rfl, if_pos hok]
theorem wd_j (a line : Nat) : wdV (FA a) line (tokB jS) = ((0, false), some 4) := by kernel_rfl
theorem wd_n (a line : Nat) : wdV (FA a) line (tokB nS) = if (a : Int) + 1 = (line : Int) then ((0, false), none) else ((0, false), some 3) := by
  unfold wdV
  rw [sil_n.1, if_neg (by simp), sil_n.2]
  rfl
theorem wd_s (F : LF) (line : Nat) (s : ByteArray) (h : silentL (tokB s) = true) : wdV F line (tokB s) = ((0, false), none) := by
  unfold wdV
  rw [h, if_pos rfl]
theorem tx_blk (a : Nat) (acc : List Int) : txRun (FA a) a blk3 acc = (acc, none) := by
  unfold blk3
  rw [txRun, wd_s _ _ _ sil_h.1]
  simp only [Bool.false_eq_true, if_false]
  rw [txRun, wd_n, if_pos (by omega)]
  simp only [Bool.false_eq_true, if_false]
  rw [txRun, wd_s _ _ _ sil_h.2]
  rfl
def wzV (a f i : Nat) : Int := if i = f then wordC 5 3 0 0 a else wordC 12 0 0 0 0
theorem tx_pre (a f k : Nat) (ha : a ≤ 4095) : txRun (FA a) 0 (preL zS a f k) [] = ((List.range k).map (wzV a f), none) := by
  induction k with
  | zero => rfl
  | succ k ih =>
    have hl : ∀ line acc, txRun (FA a) line [if k = f then zS else yS] acc = (acc ++ [wzV a f k], none) := fun line acc => by
      unfold wzV
      by_cases h : k = f
      · rw [if_pos h, if_pos h, txRun, wd_z a line ha]; rfl
      · rw [if_neg h, if_neg h, txRun, wd_y]; rfl
    rw [preL, List.append_assoc, tx_append _ _ _ _ _ _ ih]
    have hb : txRun (FA a) (0 + (preL zS a f k).length) (if k = a then blk3 else []) ((List.range k).map (wzV a f)) = ((List.range k).map (wzV a f), none) := by
      by_cases h : k = a
      · subst h
        rw [if_pos rfl, preL_len, if_neg (by omega), Nat.zero_add, Nat.add_zero]
        exact tx_blk k _
      · rw [if_neg h]; rfl
    rw [tx_append _ _ _ _ _ _ hb, hl, List.range_succ, List.map_append]
    rfl
theorem tx_fin (a f n : Nat) (ha : a ≤ 4095) : txRun (FA a) 0 (finL zS a f n) [] = ((List.range n).map (wzV a f), none) := by
  unfold finL
  rw [tx_append _ _ _ _ _ _ (tx_pre a f n ha)]
  by_cases h : n = a
  · subst h
    rw [if_pos rfl, preL_len, if_neg (by omega), Nat.zero_add, Nat.add_zero]
    exact tx_blk n _
  · rw [if_neg h]; rfl
/-- The lines as they are. -/
theorem text_ok (a f n : Nat) (ha : a ≤ n) (h4 : a ≤ 4095) : textV (finL zS a f n) = ((List.range n).map (wzV a f), none) := by
  unfold textV
  rw [ga_fin zS sil_z a f n ha]
  exact tx_fin a f n h4
/-- The name once more, at the end. -/
theorem text_many (a f n : Nat) (ha : a ≤ n) (h4 : a ≤ 4095) : textV (finL zS a f n ++ [nS]) = ([], some ((finL zS a f n).length, 3)) := by
  have hlen : (finL zS a f n).length = n + 3 := by
    unfold finL
    rw [List.length_append, preL_len]
    by_cases h : n = a
    · subst h; simp [blk3]
    · rw [if_pos (by omega), if_neg h]; simp
  unfold textV
  rw [gaAll_append, ga_fin zS sil_z a f n ha]
  have hg : (gaAll (0 + (finL zS a f n).length) (n, FA a) [nS]).2 = FA a := by
    show (gaStep _ _ nS).2 = _
    unfold gaStep
    rw [sil_n.1, if_neg (by simp), sil_n.2]
    have : ((FA a) hereL).isSome = true := by unfold FA labU; rw [if_pos rfl]; rfl
    simp only [this, if_true]
  rw [hg, tx_append _ _ _ _ _ _ (tx_fin a f n h4), txRun, wd_n, if_neg (by rw [hlen]; omega)]
  simp
/-- Ahead of the jump there are no words but one. -/
theorem tx_pre0 (a f k : Nat) (hk : k ≤ f) : txRun (FA a) 0 (preL zS a f k) [] = ((List.range k).map (fun _ => wordC 12 0 0 0 0), none) := by
  induction k with
  | zero => rfl
  | succ k ih =>
    have ih := ih (by omega)
    have hl : ∀ line acc, txRun (FA a) line [if k = f then zS else yS] acc = (acc ++ [wordC 12 0 0 0 0], none) := fun line acc => by
      rw [if_neg (by omega), txRun, wd_y]; rfl
    rw [preL, List.append_assoc, tx_append _ _ _ _ _ _ ih]
    have hb : ∀ acc, txRun (FA a) (0 + (preL zS a f k).length) (if k = a then blk3 else []) acc = (acc, none) := fun acc => by
      by_cases h : k = a
      · subst h
        rw [if_pos rfl, preL_len, if_neg (by omega), Nat.zero_add, Nat.add_zero]
        exact tx_blk k _
      · rw [if_neg h]; rfl
    rw [tx_append _ _ _ _ _ _ (hb _), hl, List.range_succ, List.map_append]
    rfl
/-- Where the jump stands. -/
theorem pre_split (a f n : Nat) (hf : f < n) : ∃ C B, C.length = f + (if a < f then 3 else 0) + (if f = a then 3 else 0) ∧ (∃ acc, txRun (FA a) 0 C [] = (acc, none)) ∧ ∀ z, preL z a f n = C ++ z :: B := by
  have hz : ∀ z k, k ≤ f → preL z a f k = preL zS a f k := by
    intro z k hk
    induction k with
    | zero => rfl
    | succ k ih =>
      rw [preL, preL, ih (by omega), if_neg (show ¬ k = f by omega), if_neg (show ¬ k = f by omega)]
  induction n with
  | zero => omega
  | succ n ih =>
    by_cases h : f < n
    · obtain ⟨C, B, h1, h2, h3⟩ := ih h
      refine ⟨C, B ++ (if n = a then blk3 else []) ++ [yS], h1, h2, fun z => ?_⟩
      rw [preL, h3, if_neg (show ¬ n = f by omega)]
      simp
    · obtain rfl : f = n := by omega
      refine ⟨preL zS a f f ++ (if f = a then blk3 else []), [], ?_, ?_, fun z => ?_⟩
      · rw [List.length_append, preL_len]
        by_cases e : f = a
        · rw [if_pos e, if_pos e]; rfl
        · rw [if_neg e, if_neg e]; rfl
      · by_cases e : f = a
        · subst e
          refine ⟨(List.range f).map (fun _ => wordC 12 0 0 0 0), ?_⟩
          rw [if_pos rfl, tx_append (FA f) _ _ 0 [] _ (tx_pre0 f f f (Nat.le_refl _))]
          rw [preL_len, if_neg (by omega), Nat.zero_add, Nat.add_zero]
          exact tx_blk f _
        · refine ⟨(List.range f).map (fun _ => wordC 12 0 0 0 0), ?_⟩
          rw [if_neg e, List.append_nil]
          exact tx_pre0 a f f (Nat.le_refl _)
      · rw [preL, hz z f (Nat.le_refl _), if_pos rfl]
/-- A jump to a name that there is not. -/
theorem text_nobody (a f n : Nat) (ha : a ≤ n) (C B : List ByteArray) (hC : ∃ acc, txRun (FA a) 0 C [] = (acc, none)) (hs : ∀ z, preL z a f n = C ++ z :: B) : textV ((finL zS a f n).set C.length jS) = ([], some (C.length, 4)) := by
  have he : (finL zS a f n).set C.length jS = finL jS a f n := by
    unfold finL
    rw [hs zS, hs jS]
    simp
  obtain ⟨acc, h2⟩ := hC
  rw [he]
  unfold textV
  rw [ga_fin jS sil_j a f n ha]
  unfold finL
  rw [hs jS, List.append_assoc, tx_append _ _ _ _ _ _ h2, List.cons_append, txRun, wd_j]
  simp
end Go.Proofs.YtaekccgcnlepaaaDoor
