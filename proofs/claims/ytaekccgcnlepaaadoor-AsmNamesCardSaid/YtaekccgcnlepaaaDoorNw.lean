/-
  AsmNames.
-/
import Derived.Test.YtaekccgcnlepaaaDoorNm
namespace Go.Proofs.YtaekccgcnlepaaaDoor
open Go.ChangeShapes Go.WideShapes Go.ChangeAt Go.RowKit Go.Maps
set_option linter.unusedVariables false
set_option linter.unusedSimpArgs false
theorem cell_three_new (w : World) (a b c : Value) (t : TypeId) : ∀ j u, [a, b, c][j]? = some u → (w.alloc (.cells #[a, b, c] t)).cell? ((⟨w.heap.size, 0, none⟩ : Addr).add j) = some u := by
  intro j u h
  match j, h with
  | 0, h | 1, h | 2, h => simp at h; subst h; simp [Addr.add]
/-- A row of lines that is ours. -/
structure LR (W0 wr : World) (b0 : Nat) (v : Value) (l : List ByteArray) (m : Nat) : Prop where
  row : wr.ownsRow b0 9 1 v m (l.map Value.string)
  bel : Below W0.heap.size W0 wr
  len : l.length = m
  lo : W0.heap.size ≤ b0
theorem LR.below {W0 wr w' : World} {b0 : Nat} {v : Value} {l : List ByteArray} {m : Nat} (h : LR W0 wr b0 v l m) (hb : Below wr.heap.size wr w') : LR W0 w' b0 v l m := ⟨own_keep h.row hb, h.bel.trans (hb.mono h.bel.size), h.len, h.lo⟩
theorem LR.more {W0 wr w3 : World} {b0 : Nat} {v v2 : Value} {l l2 : List ByteArray} {m m2 : Nat} {ob : Obj} (h : LR W0 wr b0 v l m) (hl : l2.length = m2) (hrow : w3.ownsRow b0 9 1 v2 (m + m2) (l.map Value.string ++ l2.map Value.string)) (hg : (wr.alloc ob).grownBy w3 v.ownBlock) : LR W0 w3 b0 v2 (l ++ l2) (m + m2) :=
  ⟨by rw [List.map_append]; exact hrow, (h.bel.alloc h.bel.size ob).grown hg (by have := h.bel.size; simp; omega) (fun g hg => Nat.le_trans h.lo (h.row.lt g hg).1), by rw [List.length_append, h.len, hl], h.lo⟩
theorem LR.ls {W0 wr : World} {b0 : Nat} {ad : Option Addr} {cp : Nat} {l : List ByteArray} {m : Nat} (h : LR W0 wr b0 (.slice ad m cp) l m) : LsAt wr ad l := by
  intro i hi
  rcases h.row.2 with ⟨_, h0⟩ | ⟨g, cap, cur, hv, hB, hg, rest⟩
  · have := h.len; omega
  · obtain rfl : ad = some ⟨g, 0, none⟩ := by simp at hv; exact hv.1
    refine ⟨_, rfl, lt_of_block hg, ?_⟩
    have := h.row.cellAt i (by have := h.len; omega)
    rw [show (Addr.add ⟨g, 0, none⟩ i) = ⟨g, i, none⟩ by (simp [Addr.add]; exact fun h => h.symm), this]
    simp [List.getD, hi]
theorem LR.set {W0 wr : World} {b0 g cp : Nat} {l : List ByteArray} {m : Nat} (h : LR W0 wr b0 (.slice (some ⟨g, 0, none⟩) m cp) l m) (i : Nat) (s : ByteArray) : LR W0 (wr.setCell ⟨g, i, none⟩ (.string s)) b0 (.slice (some ⟨g, 0, none⟩) m cp) (l.set i s) m := by
  have hs := h.row.stored i (.string s)
  refine ⟨by rw [List.map_set]; exact hs.1, h.bel.setCell (Nat.le_trans h.lo (h.row.lt g rfl).1) _, by rw [List.length_set]; exact h.len, h.lo⟩
theorem line_sz (z : ByteArray) (hz : z.size ≤ 900) (a f k : Nat) : ∀ s, s ∈ preL z a f k → s.size ≤ 900 := by
  induction k with
  | zero => intro s hs; cases hs
  | succ k ih =>
    intro s hs
    rw [preL, List.mem_append, List.mem_append] at hs
    rcases hs with (hs | hs) | hs
    · exact ih s hs
    · split at hs
      · simp only [blk3, List.mem_cons, List.not_mem_nil, or_false] at hs
        rcases hs with rfl | rfl | rfl <;> decide
      · cases hs
    · simp only [List.mem_cons, List.not_mem_nil, or_false] at hs
      subst hs
      split
      · exact hz
      · decide
theorem fin_sz (z : ByteArray) (hz : z.size ≤ 900) (a f n : Nat) : ∀ s, s ∈ finL z a f n → s.size ≤ 900 := by
  intro s hs
  unfold finL at hs
  rw [List.mem_append] at hs
  rcases hs with hs | hs
  · exact line_sz z hz a f n s hs
  · split at hs
    · simp only [blk3, List.mem_cons, List.not_mem_nil, or_false] at hs
      rcases hs with rfl | rfl | rfl <;> decide
    · cases hs
theorem getD_sz (l : List ByteArray) (h : ∀ s, s ∈ l → s.size ≤ 900) (i : Nat) : (l.getD i ⟨#[]⟩).size ≤ 900 := by
  by_cases hi : i < l.length
  · exact h _ (by simp [List.getD, hi])
  · rw [List.getD_eq_getElem?_getD, List.getElem?_eq_none (by omega)]
    exact Nat.zero_le _
theorem strs_one (l : List ByteArray) : ∀ u ∈ l.map Value.string, u.oneCell' = true := by
  intro u hu
  obtain ⟨s, _, rfl⟩ := List.mem_map.1 hu
  rfl
theorem own_some {w : World} {B E s n c : Nat} {ad : Option Addr} {xs : List Value} (h : w.ownsRow B E s (.slice ad n c) n xs) (hn : 0 < n) : ∃ g, ad = some ⟨g, 0, none⟩ := by
  rcases h.2 with ⟨_, h0⟩ | ⟨g, cap, cur, hv, _⟩
  · omega
  · exact ⟨g, by simp at hv; exact hv.1⟩
theorem u32_cell {w : World} {B g k c f a : Nat} {wv : Int} (h : w.ownsRow B 37 1 (.slice (some ⟨g, 0, none⟩) k c) k (((List.range k).map (wzV a f)).map u32)) (hf : f < k) (hw : wzV a f f = wv) : w.cell? ⟨g, f, none⟩ = some (.int .u32 wv) := by
  rw [h.cellAt f (by omega)]
  simp [hf, u32, hw]
set_option maxRecDepth 100000 in
set_option maxHeartbeats 8000000 in
theorem names_any {A : Nat → Addr} (p0 p1 p2 p3 : Int) (g0 : -9223372036854775808 ≤ p0 ∧ p0 ≤ 9223372036854775807) (g1 : -9223372036854775808 ≤ p1 ∧ p1 ≤ 9223372036854775807) (g2 : -9223372036854775808 ≤ p2 ∧ p2 ≤ 9223372036854775807) (g3 : -9223372036854775808 ≤ p3 ∧ p3 ≤ 9223372036854775807) (w : World) (hA : AsmAt A w) :
    Calls Tryd.prog 5 #[.int .i64 p0, .int .i64 p1, .int .i64 p2, .int .i64 p3] w fun e w' => e = .returned (.bool true) ∧ Below w.heap.size w w' := by
  have HA := Lib.hid hA
  obtain ⟨i0, hi, hz0, hz1, hz2⟩ := info_parts infoStr
  have HI := Lib.hid (⟨hi, hz0, hz1, hz2⟩ : Tryd.prog.info? 9 = some i0 ∧ i0.zero = some (.string ⟨#[]⟩) ∧ i0.size = 1 ∧ i0.bytes = 16)
  obtain ⟨N0, hN0, CN⟩ := number_nat p0 20 20 rfl (by decide) (by decide) g0.1 g0.2
  obtain ⟨N, hN⟩ : ∃ N, N = N0 + 1 := ⟨_, rfl⟩
  obtain ⟨a, ha, CA⟩ := number_nat p1 ((N : Int) + 1) (N + 1) (by omega) (by omega) (by omega) g1.1 g1.2
  obtain ⟨f, hf, CF⟩ := number_nat p2 (N : Int) N rfl (by omega) (by omega) g2.1 g2.2
  have CN' : Hid (∀ w, Calls Tryd.prog 15 #[.int .i64 p0, .int .i64 20] w fun e w' => e = .returned (.int .i64 ((N : Int) - 1)) ∧ w = w') := Lib.hid (fun w => by rw [hN, show (((N0 + 1 : Nat) : Int) - 1) = (N0 : Int) by omega]; exact CN w)
  have CA' := Lib.hid CA
  have CF' := Lib.hid CF
  have HF := Lib.hid (afirst_is w hA)
  have n1 : 1 ≤ N := by omega
  have n2 : N ≤ 20 := by omega
  clear hA hi hz0 hz1 hz2 CN CA CF hN hN0
  go_enter Tryd.func5, Tryd.ntmps5
  go_wp2_with (first
    | (go_at_call 7; (with_reducible refine HF.out.mono ?_); rintro e w1 ⟨rfl, hb⟩; have HB1 := Lib.hid hb; clear hb)
    | (go_at_call 15; (with_reducible refine (CN'.out _).mono ?_); rintro e w9 ⟨rfl, rfl⟩)
    | (go_at_call 15; (with_reducible refine (CA'.out _).mono ?_); rintro e w9 ⟨rfl, rfl⟩)
    | (go_at_call 15; (with_reducible refine (CF'.out _).mono ?_); rintro e w9 ⟨rfl, rfl⟩))
  obtain ⟨b0, hb0⟩ : ∃ b0, b0 = w1.heap.size := ⟨_, rfl⟩
  have HW1 : Hid (b0 ≤ w1.heap.size ∧ w.heap.size ≤ b0) := Lib.hid (by rw [hb0]; exact ⟨Nat.le_refl _, HB1.out.size⟩)
  clear hb0
  obtain ⟨po, HPo⟩ : ∃ po : Nat, Hid (f + (if a < f then 3 else 0) + (if f = a then 3 else 0) = po) := ⟨_, Lib.hid rfl⟩
  have hpo : po ≤ 30 := by
    rw [← HPo.out]
    split <;> split <;> omega
  have H0 : Hid (LR w w1 b0 (.slice none 0 0) (preL zS a f 0) 0 ∧ w1.heap.size ≤ w1.heap.size) := Lib.hid ⟨⟨World.ownsRow_nil _ _ _ _, HB1.out, rfl, HW1.out.2⟩, Nat.le_refl _⟩
  go_loopw [10, 11, 12] (fun lv ln i wr => ∃ (k m cp : Nat) (ad : Option Addr) (lz : Int), k ≤ N ∧ i = .int .i64 k ∧ lv = .slice ad m cp ∧ ln = .int .i64 lz ∧ lz = (if f < k then (po : Int) else -1) ∧ LR w wr b0 (.slice ad m cp) (preL zS a f k) m ∧ w1.heap.size ≤ wr.heap.size) (fun _ _ i _ => N + 1 - (intOf i).toNat)
  case atStart => exact ⟨0, 0, 0, none, -1, by omega, rfl, rfl, rfl, by simp, H0.out.1, H0.out.2⟩
  case round =>
    obtain ⟨k, m, cp, ad, lz, hk, rfl, rfl, rfl, hlz, hLR, hsz⟩ := hrel
    have HL := Lib.hid hLR
    have HLz := Lib.hid hlz
    have HSz := Lib.hid hsz
    have hm : m ≤ 30 := by
      rw [← hLR.len, preL_len]
      split <;> omega
    have hm2 : ∀ m2, (preL zS a f k ++ (if k = a then blk3 else [])).length = m2 → m2 ≤ 40 := by
      intro m2 h
      rw [← h, List.length_append, hLR.len]
      split
      · show m + 3 ≤ 40; omega
      · show m + 0 ≤ 40; omega
    have HM2 := Lib.hid hm2
    have kN : (k : Int) ≤ (N : Int) := by omega
    clear hLR hlz hm2 hsz
    go_upto_if 41 with fail
    go_cut [10] (fun v wx => ∃ (m2 cp2 : Nat) (ad2 : Option Addr), v = .slice ad2 m2 cp2 ∧ LR w wx b0 (.slice ad2 m2 cp2) (preL zS a f k ++ (if k = a then blk3 else [])) m2 ∧ w1.heap.size ≤ wx.heap.size)
    case first =>
      by_cases hka : k = a
      · subst hka
        go_wp2_with (first | (at_builtin; refine wpList_append_own_at _ rfl _ _ 40 rfl b0 9 i0 (.string ⟨#[]⟩) 1 16 Tryd.underlying40 HI.out.1 HI.out.2.1 HI.out.2.2.1 HI.out.2.2.2 rfl (by decide) _ m _ rfl (HL.out.row.alloc _) ⟨wr.heap.size, 0, none⟩ 3 3 [.string hS, .string nS, .string eS] rfl rfl (cell_three_new _ _ _ _ _) (strs_one blk3) (by unfold maxLen; omega) (by omega) (by have := HW1.out.1; have := HSz.out; simp; omega) ?_; intro v2 w4 hrow hg3 hnil hloc; have HX := Lib.hid (HL.out.more (l2 := blk3) rfl hrow hg3); have HXS := Lib.hid (Nat.le_trans (Nat.le_trans HSz.out ((Below.refl _ _).alloc (Nat.le_refl _) _).size) hg3.size); clear hrow hg3 hnil hloc))
        go_meet
        have hx := HX.out
        obtain ⟨a3, c3, hv3⟩ := owns_shp hx.row
        rw [hv3] at hx
        exact ⟨m + 3, c3, a3, hv3, by rw [if_pos trivial]; exact hx, HXS.out⟩
      · have e0 : ((k : Int) == (a : Int)) = false := by simp; omega
        have hL2 : LR w wr b0 (.slice ad m cp) (preL zS a f k ++ (if k = a then blk3 else [])) m := by rw [if_neg hka, List.append_nil]; exact HL.out
        clear hka
        go_wp2_with fail
        go_meet
        exact ⟨m, cp, ad, rfl, hL2, HSz.out⟩
    case rest =>
      obtain ⟨m2, cp2, ad2, rfl, hL2, hs2⟩ := hcut
      have HL2 := Lib.hid hL2
      have HS2 := Lib.hid hs2
      have hm40 := HM2.out m2 hL2.len
      clear hL2 hs2
      by_cases hkN : k = N
      · subst hkN
        have HFin : Hid (preL zS a f k ++ (if k = a then blk3 else []) = finL zS a f k) := Lib.hid rfl
        rw [HFin.out] at HL2
        have h4 : a ≤ 4095 := by omega
        have HLz3 : Hid (lz = (po : Int)) := Lib.hid (by rw [HLz.out, if_pos hf])
        obtain ⟨C, Bq, hC1, hC2, hC3⟩ := pre_split a f k hf
        rw [HPo.out] at hC1
        have HT1 := Lib.hid (text_is ad2 cp2 m2 _ (Lib.hid HL2.out.len) (by omega) (Lib.hid (getD_sz _ (fin_sz zS (by decide) a f k))) wc (HA.out.below HL2.out.bel) HL2.out.ls)
        rw [text_ok a f k (by omega) h4] at HT1
        have HOK : Hid (okB 5 3 0 0 (a : Int) = true) := Lib.hid (by
          have h2 : fitB (a : Int) 3 = true := by unfold fitB hiOf; simp; omega
          unfold okB
          simp only [Bool.and_eq_true]
          exact ⟨by decide, by decide, by decide, by decide, h2⟩)
        obtain ⟨wv, HWv⟩ : ∃ wv, Hid (wordC 5 3 0 0 (a : Int) = wv) := ⟨_, Lib.hid rfl⟩
        have HM3 : Hid (textV (finL zS a f k ++ [nS]) = ([], some (m2, 3))) := Lib.hid (by rw [text_many a f k (by omega) h4, HL2.out.len])
        have HM4 : Hid (textV ((finL zS a f k).set po jS) = ([], some (po, 4))) := Lib.hid (by
          have := text_nobody a f k (by omega) C Bq hC2 hC3
          rwa [hC1] at this)
        have HPm : Hid (po < m2) := Lib.hid (by
          rw [← HL2.out.len, ← hC1]
          unfold finL
          rw [hC3 zS]
          simp)
        have f0 : (0 : Int) ≤ (f : Int) := by omega
        have f1 : (f : Int) < (k : Int) := by omega
        have hwf : wzV a f f = wv := by unfold wzV; rw [if_pos rfl]; exact HWv.out
        have HWf : Hid (((List.range k).map (wzV a f)).map u32 = (List.range k).map (fun i => u32 (wzV a f i))) := Lib.hid (by simp)
        have HTE : Hid (textV (finL zS a f k) = ((List.range k).map (wzV a f), none)) := Lib.hid (text_ok a f k (by omega) h4)
        clear hC1 hC2 hC3
        rw [HLz3.out]
        go_upto_region 23 with (first
          | (go_at_call 12; (refine HT1.out.mono ?_); rintro e w5 ⟨⟨ad5, n5, cp5, ve, rfl, hn5, hr5, hve⟩, hb⟩; obtain rfl : ve = .nilIface := (by rcases hve with h | ⟨_, _, _, h, _⟩; exact h.2; cases h); obtain rfl : k = n5 := (by rw [← hn5]; simp); obtain ⟨g5, hg5⟩ := own_some hr5 (by omega); subst hg5; have c5 := u32_cell hr5 hf hwf; have HB5 := Lib.hid (HL2.out.bel.trans (hb.mono HL2.out.bel.size)); have HL5 := Lib.hid (HL2.out.below hb); have HS5 := Lib.hid (Nat.le_trans HS2.out hb.size); have lt5 := (hr5.lt g5 rfl).2; have HRR := Lib.hid hr5; clear hn5 hve hb hr5)
          | (go_at_call 16; (with_reducible refine (cword_ok 5 3 0 0 (a : Int) _ _ _ ((HA.out.below HB5.out).code) HOK wv HWv).mono ?_); rintro e w6 ⟨rfl, hb⟩; have HB6 := Lib.hid (HB5.out.trans (hb.mono HB5.out.size)); have HL6 := Lib.hid (HL5.out.below hb); have HS6 := Lib.hid (Nat.le_trans HS5.out hb.size); have c6 := (hb.cell (p := ⟨g5, f, none⟩) lt5).trans c5; clear hb c5 lt5))
        obtain ⟨ty, hty⟩ : ∃ ty, p3.tmod 3 = ty := ⟨_, rfl⟩
        have ht1 : -3 < ty ∧ ty < 3 := by
          rw [← hty]
          have h1 := Int.tmod_lt_of_pos p3 (show (0 : Int) < 3 by decide)
          have h2 := Int.lt_tmod_of_pos p3 (show (0 : Int) < 3 by decide)
          omega
        by_cases ht0 : ty = 0
        · have HA7 : Hid (∀ b n c (W : World) (l : List ByteArray), l.length = n → n ≤ 1000 → (∀ s, s ∈ l → s.size ≤ 900) → Below w.heap.size w W → LsAt W b l → textV l = ([], some (m2, 3)) → Calls Tryd.prog 12 #[.slice b n c] W fun e w' => (∃ ad n cp ve, e = .returned (.tuple #[.slice ad n cp, ve]) ∧ FaultIs ve 104 (m2 : Int) true w') ∧ Below W.heap.size W w') := Lib.hid (fun b n c W l h1 h2 h3 h4 h5 h6 => by
            have h := text_is b c n l (Lib.hid h1) h2 (Lib.hid (getD_sz l h3)) W (HA.out.below h4) h5
            rw [h6] at h
            refine h.mono fun e w' ⟨⟨ad, n', cp, ve, he, _, _, hve⟩, hb⟩ => ⟨⟨ad, n', cp, ve, he, ?_⟩, hb⟩
            rcases hve with ⟨h, _⟩ | ⟨k', er, p, h, _, _, hF⟩
            · cases h
            · simp only [Option.some.injEq, Prod.mk.injEq] at h
              obtain ⟨rfl, rfl⟩ := h
              exact hF)
          have HZ1 : Hid (∀ s, s ∈ finL zS a f k ++ [nS] → s.size ≤ 900) := Lib.hid (fun s hs => by
            rcases List.mem_append.1 hs with hs | hs
            · exact fin_sz zS (by decide) a f k s hs
            · simp only [List.mem_cons, List.not_mem_nil, or_false] at hs; subst hs; decide)
          have e7 : (ty == 0) = true := by simp [ht0]
          clear ht1
          go_wp2_with (first
            | (at_builtin; refine wpList_append_own_at _ rfl _ _ 40 rfl b0 9 i0 (.string ⟨#[]⟩) 1 16 Tryd.underlying40 HI.out.1 HI.out.2.1 HI.out.2.2.1 HI.out.2.2.2 rfl (by decide) _ m2 _ rfl (HL6.out.row.alloc _) ⟨w6.heap.size, 0, none⟩ 1 1 [.string nS] rfl rfl (cell_one_new _ _ _) (strs_one [nS]) (by unfold maxLen; omega) (by omega) (by have := HW1.out.1; have := HS6.out; simp; omega) ?_; intro v2 w4 hrow hg3 hnil hloc; obtain ⟨a7, c7, hv7⟩ := owns_shp hrow; subst hv7; have HX := Lib.hid (HL6.out.more (l2 := [nS]) rfl hrow hg3); have HXS := Lib.hid (Nat.le_trans (Nat.le_trans HS6.out ((Below.refl _ _).alloc (Nat.le_refl _) _).size) hg3.size); clear hrow hg3 hnil hloc)
            | (go_at_call 12; (with_reducible refine (HA7.out a7 (m2 + 1) c7 _ _ HX.out.len (by omega) HZ1.out HX.out.bel HX.out.ls HM3.out).mono ?_); rintro e w8 ⟨⟨ad8, n8, cp8, ve8, rfl, hF8⟩, hb⟩; have HF8 := Lib.hid hF8; have HB8 := Lib.hid (HX.out.bel.trans (hb.mono HX.out.bel.size)); clear hF8 hb)
            | (go_at_call 18; (with_reducible refine (placed_is 104 (m2 : Int) (by decide) _).mono ?_); rintro e w9 ⟨rfl, hb⟩; have HB9 := Lib.hid (HB8.out.trans (hb.mono HB8.out.size)); have HF9 := Lib.hid (HF8.out.later hb); clear hb)
            | (go_at_call 17; (with_reducible refine (same_any ve8 104 (m2 : Int) 104 (m2 : Int) true true _ HF9.out).mono ?_); rintro e w10 ⟨rfl, hb⟩; have HB10 := Lib.hid (HB9.out.trans (hb.mono HB9.out.size)); clear hb))
          go_ret
          exact ⟨by simp [faultB], HB10.out⟩
        · have e7 : (ty == 0) = false := by simp [ht0]
          by_cases ht2 : ty = 1
          · have HA7 : Hid (∀ b n c (W : World) (l : List ByteArray), l.length = n → n ≤ 1000 → (∀ s, s ∈ l → s.size ≤ 900) → Below w.heap.size w W → LsAt W b l → textV l = ([], some (po, 4)) → Calls Tryd.prog 12 #[.slice b n c] W fun e w' => (∃ ad n cp ve, e = .returned (.tuple #[.slice ad n cp, ve]) ∧ FaultIs ve 105 (po : Int) true w') ∧ Below W.heap.size W w') := Lib.hid (fun b n c W l h1 h2 h3 h4 h5 h6 => by
              have h := text_is b c n l (Lib.hid h1) h2 (Lib.hid (getD_sz l h3)) W (HA.out.below h4) h5
              rw [h6] at h
              refine h.mono fun e w' ⟨⟨ad, n', cp, ve, he, _, _, hve⟩, hb⟩ => ⟨⟨ad, n', cp, ve, he, ?_⟩, hb⟩
              rcases hve with ⟨h, _⟩ | ⟨k', er, p, h, _, _, hF⟩
              · cases h
              · simp only [Option.some.injEq, Prod.mk.injEq] at h
                obtain ⟨rfl, rfl⟩ := h
                exact hF)

            have HZ2 : Hid (∀ s, s ∈ (finL zS a f k).set po jS → s.size ≤ 900) := Lib.hid (fun s hs => by
              rcases List.mem_or_eq_of_mem_set hs with hs | hs
              · exact fin_sz zS (by decide) a f k s hs
              · subst hs; decide)
            have e8 : (ty == 1) = true := by simp [ht2]
            obtain ⟨g9, hg9⟩ := own_some HL6.out.row (by have := HPm.out; omega)
            subst hg9
            have c9 := HL6.out.row.cellAt po (by have := HPm.out; omega)
            have fz9 := HL6.out.row.frozenAt po
            obtain ⟨u9, hu9⟩ : ∃ u9, ((finL zS a f k).map Value.string)[po]? = some u9 := ⟨_, List.getElem?_eq_getElem (by rw [List.length_map, HL6.out.len]; exact HPm.out)⟩
            rw [hu9] at c9
            have po0 : (0 : Int) ≤ (po : Int) := by omega
            have po1 : (po : Int) < (m2 : Int) := by have := HPm.out; omega
            have HL9 : Hid (LR w (w6.setCell ⟨g9, po, none⟩ (.string jS)) b0 (.slice (some ⟨g9, 0, none⟩) m2 cp2) ((finL zS a f k).set po jS) m2) := Lib.hid (HL6.out.set po jS)
            obtain ⟨w7, hw7⟩ : ∃ w7, w7 = w6.setCell ⟨g9, po, none⟩ (.string jS) := ⟨_, rfl⟩
            rw [← hw7] at HL9
            clear ht1 ht0 hu9
            go_upto_region 29 with fail
            rw [show (w6.setCell ⟨g9, po, none⟩ (.string ⟨#[106, 109, 112, 32, 116, 104, 101, 114, 101]⟩)) = w7 from hw7.symm]
            clear hw7 c9 fz9
            go_wp2_with (first
              | (go_at_call 12; (with_reducible refine (HA7.out (some ⟨g9, 0, none⟩) m2 cp2 _ _ HL9.out.len (by omega) HZ2.out HL9.out.bel HL9.out.ls HM4.out).mono ?_); rintro e w8 ⟨⟨ad8, n8, cp8, ve8, rfl, hF8⟩, hb⟩; have HF8 := Lib.hid hF8; have HB8 := Lib.hid (HL9.out.bel.trans (hb.mono HL9.out.bel.size)); clear hF8 hb)
              | (go_at_call 18; (with_reducible refine (placed_is 105 (po : Int) (by decide) _).mono ?_); rintro e w9 ⟨rfl, hb⟩; have HB9 := Lib.hid (HB8.out.trans (hb.mono HB8.out.size)); have HF9 := Lib.hid (HF8.out.later hb); clear hb)
              | (go_at_call 17; (with_reducible refine (same_any ve8 105 (po : Int) 105 (po : Int) true true _ HF9.out).mono ?_); rintro e w10 ⟨rfl, hb⟩; have HB10 := Lib.hid (HB9.out.trans (hb.mono HB9.out.size)); clear hb))
            go_ret
            exact ⟨by simp [faultB], HB10.out⟩
          · have e8 : (ty == 1) = false := by simp [ht2]
            clear ht1 ht0 ht2
            go_wp2_with fail
            go_ret
            exact ⟨rfl, HB6.out⟩
      · have e1 : ((k : Int) == (N : Int)) = false := by simp; omega
        have hlt : k < N := by omega
        clear hkN
        by_cases hkf : k = f
        · have HPL : Hid (m2 = po) := Lib.hid (by
            rw [← HPo.out, ← HL2.out.len, List.length_append, preL_len, hkf]
            congr 1
            split <;> rfl)
          have HE : Hid (preL zS a f k ++ (if k = a then blk3 else []) ++ [zS] = preL zS a f (k + 1)) := Lib.hid (by rw [preL, if_pos hkf])
          subst hkf
          go_wp2_with (first | (at_builtin; refine wpList_append_own_at _ rfl _ _ 40 rfl b0 9 i0 (.string ⟨#[]⟩) 1 16 Tryd.underlying40 HI.out.1 HI.out.2.1 HI.out.2.2.1 HI.out.2.2.2 rfl (by decide) _ m2 _ rfl (HL2.out.row.alloc _) ⟨wc.heap.size, 0, none⟩ 1 1 [.string zS] rfl rfl (cell_one_new _ _ _) (strs_one [zS]) (by unfold maxLen; omega) (by omega) (by have := HW1.out.1; have := HS2.out; simp; omega) ?_; intro v2 w4 hrow hg3 hnil hloc; have HX := Lib.hid (HL2.out.more (l2 := [zS]) rfl hrow hg3); have HXS := Lib.hid (Nat.le_trans (Nat.le_trans HS2.out ((Below.refl _ _).alloc (Nat.le_refl _) _).size) hg3.size); clear hrow hg3 hnil hloc))
          go_roundw
          case rel =>
            have hx := HX.out
            rw [HE.out] at hx
            obtain ⟨a3, c3, hv3⟩ := owns_shp hx.row
            rw [hv3] at hx
            exact ⟨k + 1, m2 + 1, c3, a3, _, by omega, by go_num, hv3, rfl, by rw [if_pos (by omega), HPL.out], hx, HXS.out⟩
          case measure => simp [intOf]; omega
        · have e2 : ((k : Int) == (f : Int)) = false := by simp; omega
          have HE : Hid (preL zS a f k ++ (if k = a then blk3 else []) ++ [yS] = preL zS a f (k + 1)) := Lib.hid (by rw [preL, if_neg hkf])
          have HLz2 : Hid (lz = (if f < k + 1 then (po : Int) else -1)) := Lib.hid (by
            rw [HLz.out]
            by_cases h : f < k
            · rw [if_pos h, if_pos (by omega)]
            · rw [if_neg h, if_neg (by omega)])
          clear hkf
          go_wp2_with (first | (at_builtin; refine wpList_append_own_at _ rfl _ _ 40 rfl b0 9 i0 (.string ⟨#[]⟩) 1 16 Tryd.underlying40 HI.out.1 HI.out.2.1 HI.out.2.2.1 HI.out.2.2.2 rfl (by decide) _ m2 _ rfl (HL2.out.row.alloc _) ⟨wc.heap.size, 0, none⟩ 1 1 [.string yS] rfl rfl (cell_one_new _ _ _) (strs_one [yS]) (by unfold maxLen; omega) (by omega) (by have := HW1.out.1; have := HS2.out; simp; omega) ?_; intro v2 w4 hrow hg3 hnil hloc; have HX := Lib.hid (HL2.out.more (l2 := [yS]) rfl hrow hg3); have HXS := Lib.hid (Nat.le_trans (Nat.le_trans HS2.out ((Below.refl _ _).alloc (Nat.le_refl _) _).size) hg3.size); clear hrow hg3 hnil hloc))
          go_roundw
          case rel =>
            have hx := HX.out
            rw [HE.out] at hx
            obtain ⟨a3, c3, hv3⟩ := owns_shp hx.row
            rw [hv3] at hx
            exact ⟨k + 1, m2 + 1, c3, a3, lz, by omega, by go_num, hv3, rfl, HLz2.out, hx, HXS.out⟩
          case measure => simp [intOf]; omega
theorem walk_AsmNames (a0 : Int) (a1 : Int) (a2 : Int) (a3 : Int) (w : World) (w0 : (Lit.int .i64 a0).wf = true) (w1 : (Lit.int .i64 a1).wf = true) (w2 : (Lit.int .i64 a2).wf = true) (w3 : (Lit.int .i64 a3).wf = true) (hL : laidMetH Tryd.prog Rows.asmNamesRow.laid w) :
    Calls Tryd.prog 5 #[.int .i64 a0, .int .i64 a1, .int .i64 a2, .int .i64 a3] w fun e w' => e = .returned (.bool true) ∧ Below w.heap.size w w' := by
  rw [MakeChecks.laidMetH_plain _ _ _ (by kernel_rfl)] at hL
  have hS := sen_of hL (by
    intro n hn
    simp only [List.mem_cons, List.not_mem_nil, or_false] at hn
    rcases hn with rfl | rfl | rfl | rfl | rfl | rfl | rfl | rfl | rfl | rfl | rfl | rfl <;> exact ⟨_, by repeat (first | exact List.Mem.head _ | apply List.Mem.tail)⟩)
  have hC := code_of hL ⟨_, by repeat (first | exact List.Mem.head _ | apply List.Mem.tail)⟩ ⟨_, by repeat (first | exact List.Mem.head _ | apply List.Mem.tail)⟩ (by repeat (first | exact List.Mem.head _ | apply List.Mem.tail))
  exact names_any a0 a1 a2 a3 (i64_fitC w0) (i64_fitC w1) (i64_fitC w2) (i64_fitC w3) w (asm_of hL hS hC (by repeat (first | exact List.Mem.head _ | apply List.Mem.tail)) (by repeat (first | exact List.Mem.head _ | apply List.Mem.tail)) (by repeat (first | exact List.Mem.head _ | apply List.Mem.tail)))
end Go.Proofs.YtaekccgcnlepaaaDoor
