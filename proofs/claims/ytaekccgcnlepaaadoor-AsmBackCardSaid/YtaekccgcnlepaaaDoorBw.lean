/-
  AsmBack.
-/
import Derived.Test.YtaekccgcnlepaaaDoorSh2
namespace Go.Proofs.YtaekccgcnlepaaaDoor
open Go.ChangeShapes Go.WideShapes Go.ChangeAt Go.RowKit Go.Maps
set_option linter.unusedVariables false
set_option linter.unusedSimpArgs false
theorem gManners : Tryd.prog.globalNamed "turnkey/code.manners" = some 7 := by kernel_rfl
theorem tManners : (Tryd.prog.globals[7]?).map (·.type) = some 106 := by kernel_rfl
theorem cManners : Tryd.prog.cellsOf 106 = 3 := by kernel_rfl
theorem gPow10 : Tryd.prog.globalNamed "internal/strconv.uint64pow10" = some 10 := by kernel_rfl
theorem tPow10 : (Tryd.prog.globals[10]?).map (·.type) = some 125 := by kernel_rfl
theorem cPow10 : Tryd.prog.cellsOf 125 = 20 := by kernel_rfl
theorem cU64 : Tryd.prog.cellsOf 74 = 1 := by kernel_rfl
theorem tab_of {l : List (String × DataW Unit)} {w : World} (h : laidMet Tryd.prog l w) (hm : ("internal/strconv.uint64pow10", Lib.tabData .u64 Lib.pow10Tab) ∈ l) : Lib.TabIs Tryd.prog w "internal/strconv.uint64pow10" .u64 Lib.pow10Tab :=
  Lib.tabIs_of_head (rest := []) gPow10 tPow10 Tryd.underlying125 Tryd.underlying74 cU64 cPow10 (laid_mem h hm)
theorem tells_of {l : List (String × DataW Unit)} {w : World} (h : laidMet Tryd.prog l w) (hm : ("turnkey/code.manners", DataW.agg (mNm.map fun s => .lit (.string s))) ∈ l) (hw : ("turnkey/word.names", DataW.agg (wNm.map fun s => .lit (.string s))) ∈ l) (hp : ("internal/strconv.uint64pow10", Lib.tabData .u64 Lib.pow10Tab) ∈ l) : Tells w := by
  have h1 := texts_of_head (l := mNm) (rest := []) gManners tManners Tryd.underlying106 Tryd.underlying9 strCells cManners (laid_mem h hm)
  have h2 := texts_of_head (l := wNm) (rest := []) gWNm2 tWNm2 Tryd.underlying123 Tryd.underlying9 strCells cWNm2 (laid_mem h hw)
  exact ⟨tab_of h hp, in_heap (h2 0 (by decide)), h2, in_heap (h1 0 (by decide)), h1⟩
theorem show_sz (x : Int) (h0 : 0 ≤ x) (h1 : x ≤ 4294967295) : (showW x).size ≤ 900 := by
  unfold showW
  split
  · rename_i h
    have g := ok_bounds h
    simp only [okB, Bool.and_eq_true] at h
    obtain ⟨_, p1, p2, p3, p4⟩ := h
    have z : (nmC (x / 16777216).toNat).size ≤ 5 := nmC_size ⟨(x / 16777216).toNat, by omega⟩
    have s1 := tell_size _ _ p1
    have s2 := tell_size _ _ p2
    have s3 := tell_size _ _ p3
    have s4 := tell_size _ _ p4
    unfold textC
    split
    · rename_i h3
      rw [h3] at z s1 s2 s3 s4
      simp only [ByteArray.size_append]
      rw [show (3 : Int).toNat = 3 from rfl] at z s1 s2 s3 s4
      omega
    · simp only [ByteArray.size_append]
      omega
  · have := dec_size x.toNat (by omega)
    unfold decS at this
    rw [Int.toNat_natCast] at this
    have e : (wordS x.toNat).size = 5 + (⟨(Lib.decDigits x.toNat).toArray⟩ : ByteArray).size := by
      show (#[119, 111, 114, 100, 32] ++ (Lib.decDigits x.toNat).toArray).size = 5 + (Lib.decDigits x.toNat).toArray.size
      rw [Array.size_append]; rfl
    omega
set_option maxRecDepth 100000 in
set_option maxHeartbeats 8000000 in
theorem back_any {A : Nat → Addr} (a : Option Addr) (c m : Nat) (xs : List Int) (hn : Hid (xs.length = m)) (hx : Hid (∀ i, i < m → 0 ≤ xs.getD i 0 ∧ xs.getD i 0 ≤ 4294967295)) (w : World) (hA : AsmAt A w) (hT : Tells w) (hR : RU w a xs) :
    Calls Tryd.prog 4 #[.slice a m c] w fun e w' => e = .returned (.bool true) ∧ Below w.heap.size w w' := by
  have HA := Lib.hid hA
  have HT := Lib.hid hT
  have HR := Lib.hid hR
  have HF := Lib.hid (afirst_is w hA)
  clear hA hT hR
  by_cases hm : 30 < m
  · have d0 : decide ((30 : Int) < (m : Int)) = true := by simp; omega
    clear hm
    go_enter Tryd.func4, Tryd.ntmps4
    go_wp2_with (first
      | (go_at_call 7; (with_reducible refine HF.out.mono ?_); rintro e w1 ⟨rfl, hb⟩; have HB1 := Lib.hid hb; clear hb))
    go_ret
    exact ⟨rfl, HB1.out⟩
  · have d0 : decide ((30 : Int) < (m : Int)) = false := by simp; omega
    have hm3 : m ≤ 30 := by omega
    go_enter Tryd.func4, Tryd.ntmps4
    go_wp2_with (first
      | (go_at_call 7; (with_reducible refine HF.out.mono ?_); rintro e w1 ⟨rfl, hb⟩; have HB1 := Lib.hid hb; clear hb))
    go_loopw [4] (fun i wr => ∃ k : Nat, k ≤ m ∧ i = .int .i64 k ∧ Below w.heap.size w wr ∧ ∀ j, j < k → okW (xs.getD j 0)) (fun i _ => m - (intOf i).toNat)
    case atStart => exact ⟨0, by omega, rfl, HB1.out, fun j hj => by omega⟩
    case round =>
      obtain ⟨k, hk, rfl, hb, hok⟩ := hrel
      have HB := Lib.hid hb
      have HO := Lib.hid hok
      by_cases hlt : k < m
      · obtain ⟨adx, rfl, hl1, cx⟩ := (HR.out.below hb) k (by rw [hn.out]; exact hlt)
        obtain ⟨h0, h2⟩ := hx.out k hlt
        obtain ⟨x, hxx⟩ : ∃ x, xs.getD k 0 = x := ⟨_, rfl⟩
        rw [hxx] at cx h0 h2
        have HXX := Lib.hid hxx
        have HL1 := Lib.hid hl1
        obtain ⟨p0, hp0⟩ : ∃ p, x / 16777216 = p := ⟨_, rfl⟩
        obtain ⟨p1, hp1⟩ : ∃ p, x / 1048576 % 16 = p := ⟨_, rfl⟩
        obtain ⟨p2, hp2⟩ : ∃ p, x / 65536 % 16 = p := ⟨_, rfl⟩
        obtain ⟨p3, hp3⟩ : ∃ p, x / 4096 % 16 = p := ⟨_, rfl⟩
        obtain ⟨p4, hp4⟩ : ∃ p, x % 4096 = p := ⟨_, rfl⟩
        have HP : Hid (PartsC x p0 p1 p2 p3 p4) := Lib.hid ⟨hp0, hp1, hp2, hp3, hp4⟩
        have k0 : (0 : Int) ≤ (k : Int) := by omega
        have k1 : (k : Int) < (m : Int) := by omega
        cases hq : okB p0 p1 p2 p3 p4
        · have HOk := Lib.hid hq
          by_cases h9 : 1000000000 ≤ x
          · have d1 : decide ((1000000000 : Int) ≤ x) = true := by simp; omega
            clear hb hok hl1 hxx hp0 hp1 hp2 hp3 hp4 hq h9 hm
            go_wp2_with (first
              | (go_at_call 11; (with_reducible refine (cread_no x p0 p1 p2 p3 p4 _ _ _ (HA.out.below HB.out).code h0 h2 HP HOk).mono ?_); rintro e w4 ⟨rfl, hb⟩; have HB4 := Lib.hid (HB.out.trans (hb.mono HB.out.size)); have c4 := (hb.cell (p := adx.add k) (by rw [add_blockL]; exact HL1.out)).trans cx; have HL4 : Hid (adx.block < w4.heap.size) := Lib.hid (Nat.lt_of_lt_of_le HL1.out hb.size); have c5 := (((Below.refl _ _).alloc (Nat.le_refl _) _ : Below w4.heap.size w4 (w4.alloc (.cells #[.int .i64 0, .int .i64 0, .int .i64 0, .int .i64 0, .int .i64 0] 24))).cell (p := adx.add k) (by rw [add_blockL]; exact HL4.out)).trans c4; clear hb c4))
            go_ret
            exact ⟨rfl, HB4.out.alloc HB4.out.size _⟩
          · have d1 : decide ((1000000000 : Int) ≤ x) = false := by simp; omega
            have HO2 : Hid (∀ j, j < k + 1 → okW (xs.getD j 0)) := Lib.hid (fun j hj => by
              by_cases e : j = k
              · rw [e, HXX.out]; exact ⟨h0, h2, .inr (by omega)⟩
              · exact HO.out j (by omega))
            clear hb hok hl1 hxx hp0 hp1 hp2 hp3 hp4 hq h9 hm
            go_wp2_with (first
              | (go_at_call 11; (with_reducible refine (cread_no x p0 p1 p2 p3 p4 _ _ _ (HA.out.below HB.out).code h0 h2 HP HOk).mono ?_); rintro e w4 ⟨rfl, hb⟩; have HB4 := Lib.hid (HB.out.trans (hb.mono HB.out.size)); have c4 := (hb.cell (p := adx.add k) (by rw [add_blockL]; exact HL1.out)).trans cx; have HL4 : Hid (adx.block < w4.heap.size) := Lib.hid (Nat.lt_of_lt_of_le HL1.out hb.size); have c5 := (((Below.refl _ _).alloc (Nat.le_refl _) _ : Below w4.heap.size w4 (w4.alloc (.cells #[.int .i64 0, .int .i64 0, .int .i64 0, .int .i64 0, .int .i64 0] 24))).cell (p := adx.add k) (by rw [add_blockL]; exact HL4.out)).trans c4; clear hb c4))
            go_roundw
            case rel => exact ⟨k + 1, by omega, by go_num, HB4.out.alloc HB4.out.size _, HO2.out⟩
            case measure => simp [intOf]; omega
        · have HOk := Lib.hid hq
          have HO2 : Hid (∀ j, j < k + 1 → okW (xs.getD j 0)) := Lib.hid (fun j hj => by
            by_cases e : j = k
            · rw [e, HXX.out]; exact ⟨h0, h2, .inl (by rw [hp0, hp1, hp2, hp3, hp4]; exact hq)⟩
            · exact HO.out j (by omega))
          clear hb hok hl1 hxx hp0 hp1 hp2 hp3 hp4 hq hm
          go_wp2_with (first
            | (go_at_call 11; (with_reducible refine (cread_ok x p0 p1 p2 p3 p4 _ _ _ (HA.out.below HB.out).code h0 h2 HP HOk).mono ?_); rintro e w4 ⟨rfl, hb⟩; have HB4 := Lib.hid (HB.out.trans (hb.mono HB.out.size)); clear hb))
          go_roundw
          case rel => exact ⟨k + 1, by omega, by go_num, HB4.out.alloc HB4.out.size _, HO2.out⟩
          case measure => simp [intOf]; omega
      · obtain rfl : m = k := by omega
        have hdd : decide (m < m) = false := by simp
        have hall : ∀ x ∈ xs, okW x := fun x hxm => by
          obtain ⟨i, hi, e⟩ := List.mem_iff_getElem.1 hxm
          have := hok i (by rw [← hn.out]; exact hi)
          simp [List.getD, hi, e] at this
          exact this
        have HSh := Lib.hid (show_is a c m xs hn (by omega) hx wr (HA.out.below hb) (HT.out.below hb) (HR.out.below hb))
        have HLn : Hid ((xs.map showW).length = m) := Lib.hid (by rw [List.length_map]; exact hn.out)
        have HSz : Hid (∀ i, ((xs.map showW).getD i ⟨#[]⟩).size ≤ 900) := Lib.hid (getD_sz _ (fun s hs => by
          obtain ⟨x, hxm, rfl⟩ := List.mem_map.1 hs
          exact show_sz x (hall x hxm).1 (hall x hxm).2.1))
        have HTx : Hid (textV (xs.map showW) = (xs, none)) := Lib.hid (text_show xs hall)
        clear hb hok hall hm
        go_wp2_with (first
          | (go_at_call 13; refine HSh.out.mono ?_; rintro e w5 ⟨ad5, cp5, rfl, hl⟩; have HB5 := Lib.hid (HB.out.trans (hl.bel.mono HB.out.size)); have HL5 := Lib.hid hl; clear hl)
          | (go_at_call 12; refine (text_is ad5 cp5 m (xs.map showW) HLn (by omega) HSz _ (HA.out.below HB5.out) HL5.out.ls).mono ?_; rw [HTx.out]; rintro e w6 ⟨⟨ad6, n6, cp6, ve, rfl, hn6, hr6, hve⟩, hb⟩; obtain rfl : ve = .nilIface := (by rcases hve with h | ⟨_, _, _, h, _⟩; exact h.2; cases h); obtain rfl : n6 = m := (by rw [← hn6]; exact hn.out); have HB6 := Lib.hid (HB5.out.trans (hb.mono HB5.out.size)); have HR6 := Lib.hid (own_ru hr6 hn.out); clear hn6 hve hb hr6)
          | (go_at_call 14; (with_reducible refine (samewords_yes ad6 a cp6 c _ xs hn (by omega) _ HR6.out (HR.out.below HB6.out)).mono ?_); rintro e w7 ⟨rfl, hb⟩; have HB7 := Lib.hid (HB6.out.trans (hb.mono HB6.out.size)); clear hb))
        go_ret
        exact ⟨rfl, HB7.out⟩
theorem sen5_of {l : List (String × DataW Unit)} {w : World} (h : laidMet Tryd.prog l w) (hl : ∀ n ∈ ["turnkey/api.ErrMany", "turnkey/api.ErrNone", "turnkey/api.ErrWord", "turnkey/api.ErrNumber"], ∃ t, (n, DataW.iface "*errors.errorString" (.ptr (.agg [.lit (.string t)]))) ∈ l) : Sen5 (fun g => atErr w g) w := by
  have E := errs_are (gs := [4, 8, 1, 6]) h (by
    intro g hg
    simp only [List.mem_cons, List.not_mem_nil, or_false] at hg
    rcases hg with rfl | rfl | rfl | rfl
    · obtain ⟨t, ht⟩ := hl "turnkey/api.ErrMany" (by simp); exact ⟨_, t, ht, gErrMany, tErrMany⟩
    · obtain ⟨t, ht⟩ := hl "turnkey/api.ErrNone" (by simp); exact ⟨_, t, ht, gErrNone, tErrNone⟩
    · obtain ⟨t, ht⟩ := hl "turnkey/api.ErrWord" (by simp); exact ⟨_, t, ht, gErrWord, tErrWord⟩
    · obtain ⟨t, ht⟩ := hl "turnkey/api.ErrNumber" (by simp); exact ⟨_, t, ht, gErrNumber, tErrNumber⟩)
  obtain ⟨a1, a2, -⟩ := E.1 4 (by simp)
  obtain ⟨b1, b2, -⟩ := E.1 8 (by simp)
  obtain ⟨c1, c2, -⟩ := E.1 1 (by simp)
  obtain ⟨d1, d2, -⟩ := E.1 6 (by simp)
  exact ⟨a1, a2, b1, b2, c1, c2, d1, d2⟩
theorem row_ru {w : World} {a : Option Addr} {len cap : Nat} {zs : List Int} (h : IsRow .u32 w a len cap zs) : RU w a (zs.take len) ∧ (zs.take len).length = len ∧ ∀ i, i < len → 0 ≤ (zs.take len).getD i 0 ∧ (zs.take len).getD i 0 ≤ 4294967295 := by
  rcases h with ⟨rfl, rfl, rfl, rfl⟩ | ⟨x, rfl, h1, h2, h3, h4, h5⟩
  · exact ⟨fun j hj => by simp at hj, rfl, fun i hi => by omega⟩
  · have hg : ∀ i, i < len → (zs.take len).getD i 0 = zs.getD i 0 := fun i hi => by simp [List.getD, hi]
    refine ⟨fun j hj => ?_, by rw [List.length_take]; omega, fun i hi => ?_⟩
    · have hj2 : j < len := by rw [List.length_take] at hj; omega
      have hc := h4 j (by omega)
      refine ⟨x, rfl, ?_, by rw [hg j hj2]; exact hc⟩
      have hl : (x.add j).block < w.heap.size := by
        rcases Nat.lt_or_ge (x.add j).block w.heap.size with h' | h'
        · exact h'
        · simp [World.cell?, Array.getElem?_eq_none h'] at hc
      rw [add_blockL] at hl
      exact hl
    · rw [hg i hi]
      exact u32_fit (h5 _ (by simp [List.getD, show i < zs.length by omega]))
theorem walk_AsmBack (a0 : Option Addr) (len0 cap0 : Nat) (z0 : List Int) (w : World) (w0 : IsRow .u32 w a0 len0 cap0 z0) (hL : laidMetH Tryd.prog Rows.asmBackRow.laid w) :
    Calls Tryd.prog 4 #[.slice a0 len0 cap0] w fun e w' => e = .returned (.bool true) ∧ Below w.heap.size w w' := by
  rw [MakeChecks.laidMetH_plain _ _ _ (by kernel_rfl)] at hL
  have hS := sen5_of hL (by
    intro n hn
    simp only [List.mem_cons, List.not_mem_nil, or_false] at hn
    rcases hn with rfl | rfl | rfl | rfl <;> exact ⟨_, by repeat (first | exact List.Mem.head _ | apply List.Mem.tail)⟩)
  have hC := code_of hL ⟨_, by repeat (first | exact List.Mem.head _ | apply List.Mem.tail)⟩ ⟨_, by repeat (first | exact List.Mem.head _ | apply List.Mem.tail)⟩ (by repeat (first | exact List.Mem.head _ | apply List.Mem.tail))
  have hT := tells_of hL (by repeat (first | exact List.Mem.head _ | apply List.Mem.tail)) (by repeat (first | exact List.Mem.head _ | apply List.Mem.tail)) (by repeat (first | exact List.Mem.head _ | apply List.Mem.tail))
  obtain ⟨r1, r2, r3⟩ := row_ru w0
  exact back_any a0 cap0 len0 _ (Lib.hid r2) (Lib.hid r3) w (asm_of hL hS hC (by repeat (first | exact List.Mem.head _ | apply List.Mem.tail)) (by repeat (first | exact List.Mem.head _ | apply List.Mem.tail)) (by repeat (first | exact List.Mem.head _ | apply List.Mem.tail))) hT r1
end Go.Proofs.YtaekccgcnlepaaaDoor
