/-
  What is shown is read again: plain mathematics.
-/
import Derived.Test.YtaekccgcnlepaaaGreatDoorAo
import Derived.Test.YtaekccgcnlepaaaGreatDoorCodeI
namespace Go.Proofs.YtaekccgcnlepaaaGreatDoor
open Go.ChangeShapes Go.WideShapes Go.ChangeAt Go.RowKit
set_option linter.unusedVariables false
set_option linter.unusedSimpArgs false
theorem decF_append (l1 l2 : List UInt8) : ∀ acc n, Lib.decFrom acc l1 = some n → Lib.decFrom acc (l1 ++ l2) = Lib.decFrom n l2 := by
  induction l1 with
  | nil => intro acc n h; simp [Lib.decFrom] at h; simp [h]
  | cons b l1 ih =>
    intro acc n h
    rw [List.cons_append, Lib.decFrom]
    rw [Lib.decFrom] at h
    cases hc : Lib.digitVal b with
    | none => rw [hc] at h; cases h
    | some d =>
      rw [hc] at h
      exact ih _ _ h
theorem dig_val : ∀ d : Fin 10, Lib.digitVal (UInt8.ofNat (48 + d.val)) = some d.val := by decide +kernel
theorem decF_dig (acc d : Nat) (hd : d < 10) : Lib.decFrom acc [UInt8.ofNat (48 + d)] = some (acc * 10 + d) := by
  have h := dig_val ⟨d, hd⟩
  simp only at h
  rw [Lib.decFrom, h]
  rfl
theorem decF_dec (u : Nat) : Lib.decFrom 0 (Lib.decDigits u) = some u := by
  induction u using Nat.strongRecOn with
  | _ u ih =>
    rw [Lib.decDigits]
    split
    · rename_i h
      rw [decF_dig 0 u h]; simp
    · rename_i h
      rw [decF_append _ _ _ _ (ih (u / 10) (by omega)), decF_dig _ _ (Nat.mod_lt _ (by decide))]
      congr 1; omega
theorem dec_ne (u : Nat) : Lib.decDigits u ≠ [] := by
  rw [Lib.decDigits]
  split <;> simp
theorem dec_head (u : Nat) : (Lib.decDigits u).head? = some 48 → Lib.decDigits u = [48] := by
  induction u using Nat.strongRecOn with
  | _ u ih =>
    rw [Lib.decDigits]
    split
    · rename_i h
      intro hh
      simp only [List.head?_cons, Option.some.injEq] at hh
      rw [hh]
    · rename_i h
      intro hh
      have hne := dec_ne (u / 10)
      have hh2 : (Lib.decDigits (u / 10)).head? = some 48 := by
        cases hq : Lib.decDigits (u / 10) with
        | nil => exact absurd hq hne
        | cons c r => rw [hq] at hh; simpa using hh
      have e := ih (u / 10) (by omega) hh2
      have : u / 10 = 0 := by
        have h1 := decF_dec (u / 10)
        rw [e] at h1
        have h2 : Lib.decFrom 0 [48] = some 0 := by decide
        rw [h2] at h1
        injection h1 with h1
        exact h1.symm
      omega
theorem dec_len9 (u : Nat) : ∀ k, 1 ≤ k → u < 10 ^ k → (Lib.decDigits u).length ≤ k := by
  induction u using Nat.strongRecOn with
  | _ u ih =>
    intro k hk hu
    rw [Lib.decDigits]
    split
    · simpa using hk
    · rename_i h
      obtain ⟨k, rfl⟩ : ∃ j, k = j + 1 := ⟨k - 1, by omega⟩
      have hk1 : 1 ≤ k := by
        rcases Nat.eq_zero_or_pos k with rfl | h'
        · simp at hu; omega
        · exact h'
      have := ih (u / 10) (by omega) k hk1 (by rw [Nat.pow_succ] at hu; omega)
      simp; exact this
theorem num_dec (u : Nat) (hu : u < 1000000000) : numL (Lib.decDigits u) = some u := by
  unfold numL
  rw [if_neg]
  · unfold Lib.decNat
    rw [if_neg (by simp [dec_ne u])]
    exact decF_dec u
  · rintro (h | h | ⟨h1, h2⟩ | h)
    · exact dec_ne u h
    · have := dec_len9 u 9 (by decide) (by simpa using hu); omega
    · exact h2 (dec_head u h1)
    · have : (Lib.decDigits u).all (inB 48 57) = true := by
        rw [List.all_eq_true]
        intro c hc
        have := dec_digs u c hc
        unfold isDig at this
        simp only [Bool.and_eq_true, decide_eq_true_eq, UInt8.le_iff_toNat_le] at this
        simp only [inB, decide_eq_true_eq]
        exact this
      rw [this] at h; cases h
theorem decS2_dec (u : Nat) (hu : u < 1000000000) : decS2 (Lib.decDigits u) = ((u : Int), none) := by
  unfold decS2
  rw [num_dec u hu]
theorem nm_w : ∀ i : Fin 12, nmS wNm (wNm.getD i.val []) = ((i.val : Int), none) := by decide +kernel
theorem nm_m : ∀ i : Fin 3, nmS mNm (mNm.getD i.val []) = ((i.val : Int), none) := by decide +kernel
theorem reg_dec (k : UInt8) (u : Nat) (hu : u < 1000000000) : regS k (k :: Lib.decDigits u) = ((u : Int), none) := by
  have h1 : Lib.hasPrefix (k :: Lib.decDigits u) [k] = true := by simp [Lib.hasPrefix, List.isPrefixOf]
  unfold regS
  rw [if_pos h1]
  unfold Lib.trimPrefix
  rw [if_pos h1]
  exact decS2_dec u hu
theorem nameL_dec (u : Nat) : nameL (Lib.decDigits u) = false := by
  unfold nameL
  have hne := dec_ne u
  obtain ⟨c, r, e⟩ : ∃ c r, Lib.decDigits u = c :: r := by
    cases h : Lib.decDigits u with
    | nil => exact absurd h hne
    | cons c r => exact ⟨c, r, rfl⟩
  have := dec_digs u c (by rw [e]; simp)
  unfold isDig at this
  simp only [Bool.and_eq_true, decide_eq_true_eq, UInt8.le_iff_toNat_le] at this
  have h2 : inB 97 122 c = false := by
    simp only [inB, decide_eq_false_iff_not]
    have := this.2
    have e2 : (57 : UInt8).toNat = 57 := rfl
    omega
  rw [e]
  simp [h2]
theorem vb_n (F : LF) (op u : Nat) (hu : u < 1000000000) : valN F op 110 (Lib.decDigits u) = ((u : Int), none) := by
  unfold valN numS
  split
  · rw [nameL_dec, if_neg (by simp)]; exact decS2_dec u hu
  · unfold valK; rw [if_pos rfl]; exact decS2_dec u hu
theorem vb_r (F : LF) (op u : Nat) (hu : u < 1000000000) : valN F op 114 (114 :: Lib.decDigits u) = ((u : Int), none) := by
  unfold valN
  rw [if_neg (by simp)]
  unfold valK
  rw [if_neg (by decide), if_neg (by decide), if_neg (by decide)]
  exact reg_dec 114 u hu
theorem vb_k (F : LF) (op u : Nat) (hu : u < 1000000000) : valN F op 107 (107 :: Lib.decDigits u) = ((u : Int), none) := by
  unfold valN
  rw [if_neg (by simp)]
  unfold valK
  rw [if_neg (by decide), if_neg (by decide), if_neg (by decide)]
  exact reg_dec 107 u hu
theorem vb_o (F : LF) (op i : Nat) (hi : i < 12) : valN F op 111 (wNm.getD i []) = ((i : Int), none) := by
  unfold valN
  rw [if_neg (by simp)]
  unfold valK
  rw [if_neg (by decide), if_pos (by decide)]
  exact nm_w ⟨i, hi⟩
theorem vb_m (F : LF) (op i : Nat) (hi : i < 3) : valN F op 109 (mNm.getD i []) = ((i : Int), none) := by
  unfold valN
  rw [if_neg (by simp)]
  unfold valK
  rw [if_neg (by decide), if_neg (by decide), if_pos (by decide)]
  exact nm_m ⟨i, hi⟩
/-- Tokens apart by one blank each. -/
def joinT : List (List UInt8) → List UInt8
  | [] => []
  | x :: r => 32 :: (x ++ joinT r)
theorem split_join (ts : List (List UInt8)) : (∀ t ∈ ts, t ≠ [] ∧ ∀ b ∈ t, b ≠ 32) → ∀ cur, cur ≠ [] → splitFrom cur (joinT ts) = cur :: ts := by
  induction ts with
  | nil => intro _ cur hc; exact split_end hc
  | cons t ts ih =>
    intro h cur hc
    obtain ⟨h1, h2⟩ := h t (by simp)
    rw [joinT, split_space hc, split_skip _ _ h2, List.nil_append, ih (fun x hx => h x (by simp [hx])) t h1]
theorem split_tokens (nm : List UInt8) (ts : List (List UInt8)) (h0 : nm ≠ []) (h1 : ∀ b ∈ nm, b ≠ 32) (h : ∀ t ∈ ts, t ≠ [] ∧ ∀ b ∈ t, b ≠ 32) : splitFrom [] (nm ++ joinT ts) = nm :: ts := by
  rw [split_skip _ _ h1, List.nil_append, split_join ts h nm h0]
def okT (t : List UInt8) : Prop := t ≠ [] ∧ ∀ b ∈ t, b ≠ 32
theorem okT_dec (u : Nat) : okT (Lib.decDigits u) := ⟨dec_ne u, fun b hb => by have := dig_no u b hb; simpa using this⟩
theorem okT_reg (k : UInt8) (hk : k ≠ 32) (u : Nat) : okT (k :: Lib.decDigits u) := ⟨by simp, fun b hb => by
  rcases List.mem_cons.1 hb with rfl | hb
  · exact hk
  · exact (okT_dec u).2 b hb⟩
theorem wn_ok : ∀ i : Fin 12, wNm.getD i.val [] ≠ [] := by decide +kernel
theorem mn_ok : ∀ i : Fin 3, mNm.getD i.val [] ≠ [] := by decide +kernel
theorem fn_ok : ∀ i : Fin 14, 1 ≤ i.val → fNm.getD i.val [] ≠ [] := by decide +kernel
theorem okT_w (i : Nat) (hi : i < 12) : okT (wNm.getD i []) := ⟨wn_ok ⟨i, hi⟩, fun b hb => by have := wn_letters ⟨i, hi⟩ b hb; simpa using this⟩
theorem okT_m (i : Nat) (hi : i < 3) : okT (mNm.getD i []) := ⟨mn_ok ⟨i, hi⟩, fun b hb => by have := mn_letters ⟨i, hi⟩ b hb; simpa using this⟩
theorem fn_sil : ∀ n : Fin 14, Lib.hasPrefix (fNm.getD n.val []) [35] = false := by decide +kernel
theorem fn_suf : ∀ n : Fin 14, Lib.hasSuffix (fNm.getD n.val []) [58] = false := by decide +kernel
theorem fn_word : ∀ n : Fin 14, fNm.getD n.val [] ≠ [119, 111, 114, 100] := by decide +kernel
theorem fn_op : ∀ n : Fin 14, opL (fNm.getD n.val []) = n.val := by decide +kernel
def wsOf (l : List (List UInt8)) : List ByteArray := l.map fun l => ⟨l.toArray⟩
/-- A line of an instruction's words is no label, no comment. -/
theorem ws_ins (n : Nat) (hn : n < 14) (ts : List (List UInt8)) : silentL (wsOf (fNm.getD n [] :: ts)) = false ∧ nmIn (wsOf (fNm.getD n [] :: ts)) = none := by
  refine ⟨fn_sil ⟨n, hn⟩, ?_⟩
  cases ts with
  | nil =>
    show (if Lib.hasSuffix (fNm.getD n []) [58] = true ∧ _ then _ else _) = _
    rw [if_neg]
    rw [fn_suf ⟨n, hn⟩]
    simp
  | cons t r => rfl
theorem run_step (vv : Nat → Int × Option Nat) (k : UInt8) (ks : List UInt8) (j : Nat) (st : List Int × Int) (x : Int) (h : vv j = (x, none)) : runV vv (k :: ks) j st = runV vv ks (j + 1) (if k = 110 ∨ k = 111 then (st.1, x) else (st.1 ++ [x], st.2)) := by
  rw [runV, h]
theorem wd_ins (F : LF) (line n : Nat) (hn0 : 1 ≤ n) (hn : n < 14) (ts : List (List UInt8)) (hl : ts.length = (aWd.getD n []).length) (A : List Int) (I : Int)
    (hr : runV (fun j => valN F n ((aWd.getD n []).getD j 0) (ts.getD j [])) (aWd.getD n []) 0 ([], 0) = ((A, I), none)) (hok : okB n (A.getD 0 0) (A.getD 1 0) (A.getD 2 0) I = true) :
    wdV F line (wsOf (fNm.getD n [] :: ts)) = ((wordC n (A.getD 0 0) (A.getD 1 0) (A.getD 2 0) I, true), none) := by
  obtain ⟨h1, h2⟩ := ws_ins n hn ts
  unfold wdV
  rw [h1, if_neg (by simp), h2]
  have h3 : ¬ (((wsOf (fNm.getD n [] :: ts)).getD 0 ⟨#[]⟩).data.toList = [119, 111, 114, 100] ∧ (wsOf (fNm.getD n [] :: ts)).length = 2) := fun h => fn_word ⟨n, hn⟩ h.1
  simp only
  rw [if_neg h3]
  have h4 : opW (wsOf (fNm.getD n [] :: ts)) = n := fn_op ⟨n, hn⟩
  have h5 : parN F (wsOf (fNm.getD n [] :: ts)) = ((((n : Nat) : Int), A.getD 0 0, A.getD 1 0, A.getD 2 0, I), none) := by
    unfold parN parseV
    rw [h4, if_neg (by simp [wsOf, hl]; omega)]
    have h6 : (fun j => valN F n ((aWd.getD n []).getD j 0) ((wsOf (fNm.getD n [] :: ts)).getD (1 + j) ⟨#[]⟩).data.toList) = fun j => valN F n ((aWd.getD n []).getD j 0) (ts.getD j []) := by
      funext j
      congr 1
      rw [Nat.add_comm 1 j]
      show ((wsOf ts).getD j ⟨#[]⟩).data.toList = _
      unfold wsOf
      simp only [List.getD, List.getElem?_map]
      cases ts[j]? <;> rfl
    rw [h6, hr]
    unfold insV
    simp only
    rw [if_pos hok]
  rw [h5]
/-- The words of a right instruction's text. -/
def toksC (n a b c i : Nat) : List (List UInt8) :=
  if n = 1 ∨ n = 2 ∨ n = 5 then [114 :: Lib.decDigits a, Lib.decDigits i]
  else if n = 3 then [wNm.getD i [], 114 :: Lib.decDigits a, 114 :: Lib.decDigits b, 114 :: Lib.decDigits c]
  else if n = 4 then [Lib.decDigits i]
  else if n = 6 ∨ n = 7 then [114 :: Lib.decDigits a, 114 :: Lib.decDigits b, Lib.decDigits i]
  else if n = 8 then [107 :: Lib.decDigits a, 107 :: Lib.decDigits b]
  else if n = 9 then [107 :: Lib.decDigits a, 114 :: Lib.decDigits b]
  else if n = 10 then [114 :: Lib.decDigits a, 107 :: Lib.decDigits b]
  else if n = 11 then [mNm.getD a [], 107 :: Lib.decDigits b, 107 :: Lib.decDigits c]
  else []
theorem ok_tight {n a b c i : Nat} (h : okB n a b c i = true) : (n = 3 → i ≤ 11) ∧ (n = 11 → a ≤ 2) ∧ ((n = 4 ∨ n = 12 ∨ n = 13) → a = 0) ∧ ((n = 1 ∨ n = 2 ∨ n = 4 ∨ n = 5 ∨ n = 12 ∨ n = 13) → b = 0) ∧ ((n ≠ 3 ∧ n ≠ 11) → c = 0) ∧ ((8 ≤ n) → i = 0) := by
  have g := ok_bounds h
  obtain ⟨p1, p2, p3, p4⟩ := ok_parts h
  rcases (show n = 1 ∨ n = 2 ∨ n = 3 ∨ n = 4 ∨ n = 5 ∨ n = 6 ∨ n = 7 ∨ n = 8 ∨ n = 9 ∨ n = 10 ∨ n = 11 ∨ n = 12 ∨ n = 13 by omega) with rfl | rfl | rfl | rfl | rfl | rfl | rfl | rfl | rfl | rfl | rfl | rfl | rfl
  all_goals
    simp [fitB, fA, fB, fC, fI, hiOf] at p1 p2 p3 p4
    omega
theorem txC_join {n a b c i : Nat} (h : okB n a b c i = true) : txC n a b c i = fNm.getD n [] ++ joinT (toksC n a b c i) := by
  have g := ok_bounds h
  rcases (show n = 1 ∨ n = 2 ∨ n = 3 ∨ n = 4 ∨ n = 5 ∨ n = 6 ∨ n = 7 ∨ n = 8 ∨ n = 9 ∨ n = 10 ∨ n = 11 ∨ n = 12 ∨ n = 13 by omega) with rfl | rfl | rfl | rfl | rfl | rfl | rfl | rfl | rfl | rfl | rfl | rfl | rfl
  all_goals
    unfold txC
    simp [tellL, fA, fB, fC, fI, toksC, joinT]
theorem toks_ok {n a b c i : Nat} (h : okB n a b c i = true) : ∀ t ∈ toksC n a b c i, okT t := by
  have g := ok_bounds h
  obtain ⟨t1, t2, -⟩ := ok_tight h
  have r4 := fun u => okT_reg 114 (by decide) u
  have k7 := fun u => okT_reg 107 (by decide) u
  rcases (show n = 1 ∨ n = 2 ∨ n = 3 ∨ n = 4 ∨ n = 5 ∨ n = 6 ∨ n = 7 ∨ n = 8 ∨ n = 9 ∨ n = 10 ∨ n = 11 ∨ n = 12 ∨ n = 13 by omega) with rfl | rfl | rfl | rfl | rfl | rfl | rfl | rfl | rfl | rfl | rfl | rfl | rfl
  all_goals
    intro t ht
    simp [toksC] at ht
    try rcases ht with rfl | rfl | rfl | rfl
    try rcases ht with rfl | rfl | rfl
    try rcases ht with rfl | rfl
    try subst ht
    all_goals first | exact r4 _ | exact k7 _ | exact okT_dec _ | exact okT_w _ (by have := t1 rfl; omega) | exact okT_m _ (by have := t2 rfl; omega)
theorem tok_text {n a b c i : Nat} (h : okB n a b c i = true) : tokB (textC n a b c i) = wsOf (fNm.getD n [] :: toksC n a b c i) := by
  have g := ok_bounds h
  unfold tokB tokL
  rw [textC_list, txC_join h, split_tokens _ _ (fn_ok ⟨n, by omega⟩ (by simp; omega)) (fun b hb => by have := fnames_letters ⟨n, by omega⟩ b hb; simpa using this) (toks_ok h)]
  rfl
theorem wd_text (F : LF) (line : Nat) {n a b c i : Nat} (h : okB n a b c i = true) : wdV F line (tokB (textC n a b c i)) = ((wordC n a b c i, true), none) := by
  have g := ok_bounds h
  obtain ⟨t1, t2, t3, t4, t5, t6⟩ := ok_tight h
  rw [tok_text h]
  have va := fun op => vb_r F op a (by omega)
  have vb := fun op => vb_r F op b (by omega)
  have vc := fun op => vb_r F op c (by omega)
  have ka := fun op => vb_k F op a (by omega)
  have kb := fun op => vb_k F op b (by omega)
  have kc := fun op => vb_k F op c (by omega)
  have ni := fun op => vb_n F op i (by omega)
  rcases (show n = 1 ∨ n = 2 ∨ n = 3 ∨ n = 4 ∨ n = 5 ∨ n = 6 ∨ n = 7 ∨ n = 8 ∨ n = 9 ∨ n = 10 ∨ n = 11 ∨ n = 12 ∨ n = 13 by omega) with rfl | rfl | rfl | rfl | rfl | rfl | rfl | rfl | rfl | rfl | rfl | rfl | rfl
  · obtain rfl := t4 (by decide); obtain rfl := t5 (by decide)
    exact wd_ins F line 1 (by decide) (by decide) _ rfl [(a : Int)] (i : Int) (by
      show runV _ [114, 110] 0 ([], 0) = _
      rw [run_step _ _ _ _ _ _ (va 1), run_step _ _ _ _ _ _ (ni 1)]; rfl) h
  · obtain rfl := t4 (by decide); obtain rfl := t5 (by decide)
    exact wd_ins F line 2 (by decide) (by decide) _ rfl [(a : Int)] (i : Int) (by
      show runV _ [114, 110] 0 ([], 0) = _
      rw [run_step _ _ _ _ _ _ (va 2), run_step _ _ _ _ _ _ (ni 2)]; rfl) h
  · have wi := fun op => vb_o F op i (by have := t1 rfl; omega)
    exact wd_ins F line 3 (by decide) (by decide) _ rfl [(a : Int), (b : Int), (c : Int)] (i : Int) (by
      show runV _ [111, 114, 114, 114] 0 ([], 0) = _
      rw [run_step _ _ _ _ _ _ (wi 3), run_step _ _ _ _ _ _ (va 3), run_step _ _ _ _ _ _ (vb 3), run_step _ _ _ _ _ _ (vc 3)]; rfl) h
  · obtain rfl := t3 (by decide); obtain rfl := t4 (by decide); obtain rfl := t5 (by decide)
    exact wd_ins F line 4 (by decide) (by decide) _ rfl [] (i : Int) (by
      show runV _ [110] 0 ([], 0) = _
      rw [run_step _ _ _ _ _ _ (ni 4)]; rfl) h
  · obtain rfl := t4 (by decide); obtain rfl := t5 (by decide)
    exact wd_ins F line 5 (by decide) (by decide) _ rfl [(a : Int)] (i : Int) (by
      show runV _ [114, 110] 0 ([], 0) = _
      rw [run_step _ _ _ _ _ _ (va 5), run_step _ _ _ _ _ _ (ni 5)]; rfl) h
  · obtain rfl := t5 (by decide)
    exact wd_ins F line 6 (by decide) (by decide) _ rfl [(a : Int), (b : Int)] (i : Int) (by
      show runV _ [114, 114, 110] 0 ([], 0) = _
      rw [run_step _ _ _ _ _ _ (va 6), run_step _ _ _ _ _ _ (vb 6), run_step _ _ _ _ _ _ (ni 6)]; rfl) h
  · obtain rfl := t5 (by decide)
    exact wd_ins F line 7 (by decide) (by decide) _ rfl [(a : Int), (b : Int)] (i : Int) (by
      show runV _ [114, 114, 110] 0 ([], 0) = _
      rw [run_step _ _ _ _ _ _ (va 7), run_step _ _ _ _ _ _ (vb 7), run_step _ _ _ _ _ _ (ni 7)]; rfl) h
  · obtain rfl := t5 (by decide); obtain rfl := t6 (by decide)
    exact wd_ins F line 8 (by decide) (by decide) _ rfl [(a : Int), (b : Int)] 0 (by
      show runV _ [107, 107] 0 ([], 0) = _
      rw [run_step _ _ _ _ _ _ (ka 8), run_step _ _ _ _ _ _ (kb 8)]; rfl) h
  · obtain rfl := t5 (by decide); obtain rfl := t6 (by decide)
    exact wd_ins F line 9 (by decide) (by decide) _ rfl [(a : Int), (b : Int)] 0 (by
      show runV _ [107, 114] 0 ([], 0) = _
      rw [run_step _ _ _ _ _ _ (ka 9), run_step _ _ _ _ _ _ (vb 9)]; rfl) h
  · obtain rfl := t5 (by decide); obtain rfl := t6 (by decide)
    exact wd_ins F line 10 (by decide) (by decide) _ rfl [(a : Int), (b : Int)] 0 (by
      show runV _ [114, 107] 0 ([], 0) = _
      rw [run_step _ _ _ _ _ _ (va 10), run_step _ _ _ _ _ _ (kb 10)]; rfl) h
  · have mi := fun op => vb_m F op a (by have := t2 rfl; omega)
    obtain rfl := t6 (by decide)
    exact wd_ins F line 11 (by decide) (by decide) _ rfl [(a : Int), (b : Int), (c : Int)] 0 (by
      show runV _ [109, 107, 107] 0 ([], 0) = _
      rw [run_step _ _ _ _ _ _ (mi 11), run_step _ _ _ _ _ _ (kb 11), run_step _ _ _ _ _ _ (kc 11)]; rfl) h
  · obtain rfl := t3 (by decide); obtain rfl := t4 (by decide); obtain rfl := t5 (by decide); obtain rfl := t6 (by decide)
    exact wd_ins F line 12 (by decide) (by decide) _ rfl [] 0 rfl h
  · obtain rfl := t3 (by decide); obtain rfl := t4 (by decide); obtain rfl := t5 (by decide); obtain rfl := t6 (by decide)
    exact wd_ins F line 13 (by decide) (by decide) _ rfl [] 0 rfl h
/-- A word that is no instruction, shown. -/
def wordS (u : Nat) : ByteArray := ⟨#[119, 111, 114, 100, 32] ++ (Lib.decDigits u).toArray⟩
theorem wd_word (F : LF) (line u : Nat) (hu : u < 1000000000) : wdV F line (tokB (wordS u)) = (((u : Int), true), none) := by
  have e : tokB (wordS u) = wsOf [[119, 111, 114, 100], Lib.decDigits u] := by
    unfold tokB tokL
    rw [show (wordS u).data.toList = [119, 111, 114, 100] ++ joinT [Lib.decDigits u] by simp [wordS, joinT], split_tokens _ _ (by decide) (by decide) (by
      intro t ht
      simp only [List.mem_singleton] at ht
      subst ht
      exact okT_dec u)]
    rfl
  rw [e]
  unfold wdV
  rw [if_neg (by show ¬ (Lib.hasPrefix [119, 111, 114, 100] [35] = true); decide)]
  have h2 : nmIn (wsOf [[119, 111, 114, 100], Lib.decDigits u]) = none := rfl
  rw [h2]
  simp only
  rw [if_pos ⟨rfl, rfl⟩]
  have h3 : ((wsOf [[119, 111, 114, 100], Lib.decDigits u]).getD 1 ⟨#[]⟩).data.toList = Lib.decDigits u := by simp [wsOf]
  rw [h3, decS2_dec u hu]
/-- What is shown of a word. -/
def showW (x : Int) : ByteArray := if okB (x / 16777216) (x / 1048576 % 16) (x / 65536 % 16) (x / 4096 % 16) (x % 4096) = true then textC (x / 16777216) (x / 1048576 % 16) (x / 65536 % 16) (x / 4096 % 16) (x % 4096) else wordS x.toNat
def okW (x : Int) : Prop := 0 ≤ x ∧ x ≤ 4294967295 ∧ (okB (x / 16777216) (x / 1048576 % 16) (x / 65536 % 16) (x / 4096 % 16) (x % 4096) = true ∨ x < 1000000000)
theorem wd_show (F : LF) (line : Nat) (x : Int) (h : okW x) : wdV F line (tokB (showW x)) = ((x, true), none) := by
  obtain ⟨h0, h1, h2⟩ := h
  obtain ⟨n, hn⟩ : ∃ n : Nat, x / 16777216 = n := ⟨(x / 16777216).toNat, by omega⟩
  obtain ⟨a, ha⟩ : ∃ n : Nat, x / 1048576 % 16 = n := ⟨(x / 1048576 % 16).toNat, by omega⟩
  obtain ⟨b, hb⟩ : ∃ n : Nat, x / 65536 % 16 = n := ⟨(x / 65536 % 16).toNat, by omega⟩
  obtain ⟨c, hc⟩ : ∃ n : Nat, x / 4096 % 16 = n := ⟨(x / 4096 % 16).toNat, by omega⟩
  obtain ⟨i, hi⟩ : ∃ n : Nat, x % 4096 = n := ⟨(x % 4096).toNat, by omega⟩
  unfold showW
  rw [hn, ha, hb, hc, hi] at h2 ⊢
  by_cases hk : okB n a b c i = true
  · rw [if_pos hk, wd_text F line hk, wordC_of (v := x) ⟨hn, ha, hb, hc, hi⟩]
  · rw [if_neg hk]
    have hx : x < 1000000000 := by
      rcases h2 with h | h
      · exact absurd h hk
      · exact h
    rw [wd_word F line x.toNat (by omega), show ((x.toNat : Nat) : Int) = x by omega]
theorem tx_show (F : LF) (xs : List Int) (h : ∀ x ∈ xs, okW x) : ∀ (line : Nat) (acc : List Int), txRun F line (xs.map showW) acc = (acc ++ xs, none) := by
  induction xs with
  | nil => intro line acc; simp [txRun]
  | cons x xs ih =>
    intro line acc
    rw [List.map_cons, txRun, wd_show F line x (h x (by simp))]
    simp only [if_true]
    rw [ih (fun y hy => h y (by simp [hy]))]
    simp
theorem text_show (xs : List Int) (h : ∀ x ∈ xs, okW x) : textV (xs.map showW) = (xs, none) := by
  unfold textV
  rw [tx_show _ xs h]
  simp
end Go.Proofs.YtaekccgcnlepaaaGreatDoor
