/-
  hole: look.
-/
import Derived.Test.YtahhnfhnlffmpaaHn
namespace Go.Proofs.Ytahhnfhnlffmpaa
open Go.ChangeShapes Go.WideShapes Go.ChangeAt Go.RowKit Go.Maps
set_option linter.unusedVariables false
theorem hinfoInt : (Try.prog.info? 3).map (fun i => (i.zero, i.size, i.bytes)) = some (some (.int .i64 0), 1, 8) := by kernel_rfl
theorem hinfoB : (Try.prog.info? 4).map (fun i => (i.zero, i.size, i.bytes)) = some (some (.bool false), 1, 1) := by kernel_rfl
theorem hinfoS : (Try.prog.info? 58).map (fun i => (i.zero, i.size, i.bytes)) = some (some (.slice none 0 0), 1, 24) := by kernel_rfl
theorem own_shape {w : World} {B E s n : Nat} {v : Value} {xs : List Value} (h : w.ownsRow B E s v n xs) : ∃ a c, v = .slice a n c := by
  rcases h.2 with ⟨rfl, rfl⟩ | ⟨g, cap, cur, rfl, _⟩
  · exact ⟨_, _, rfl⟩
  · exact ⟨_, _, rfl⟩
theorem int_one (x : Int) : ∀ u ∈ [Value.int .i64 x], u.oneCell' = true := by intro u hu; simp at hu; subst hu; rfl
section
variable {w w3 : World} {a : Option Addr} {D : FD}
theorem HkAt.start (hF : FacAt w a D) (ho : w3.ownsRow 0 4 1 (.slice (some ⟨w.heap.size + 1 + 1, 0, none⟩) D.n D.n) D.n (madeCells (Value.bool false).cells (D.n * 1)).toList) (hg : ((w.alloc (.cells #[.map none, .slice none 0 0] 50 (0, 0))).alloc (.map #[] 0)).grownBy w3 none) :
    HkAt w (w3.alloc (.cells #[.map (some (w.heap.size + 1)), .slice (some ⟨w.heap.size + 1 + 1, 0, none⟩) D.n D.n] 50 (0, 0))) a D w.heap.size (w.heap.size + 1) (w.heap.size + 1 + 1) w3.heap.size 0 (.map []) (fun _ => false) := by
  have e1 : (w.alloc (.cells #[.map none, .slice none 0 0] 50 (0, 0))).heap.size = w.heap.size + 1 := by simp
  have e2 : ((w.alloc (.cells #[.map none, .slice none 0 0] 50 (0, 0))).alloc (.map #[] 0)).heap.size = w.heap.size + 1 + 1 := by simp
  have hb : Below ((w.alloc (.cells #[.map none, .slice none 0 0] 50 (0, 0))).alloc (.map #[] 0)).heap.size ((w.alloc (.cells #[.map none, .slice none 0 0] 50 (0, 0))).alloc (.map #[] 0)) w3 := (Below.refl _ _).grown hg (Nat.le_refl _) (fun k hk => by cases hk)
  have hb1 : Below w.heap.size w ((w.alloc (.cells #[.map none, .slice none 0 0] 50 (0, 0))).alloc (.map #[] 0)) := ((Below.refl _ _).alloc (Nat.le_refl _) _).alloc (by simp) _
  have hb2 := hb1.trans (hb.mono hb1.size)
  have hm := World.ownsMap_made (w.alloc (.cells #[.map none, .slice none 0 0] 50 (0, 0))) Try.prog 55 (plainElem (H := Unit) Try.prog 3)
  rw [e1] at hm
  have hlt : w.heap.size + 1 + 1 < w3.heap.size := (ho.lt _ rfl).2
  refine ⟨hb2.alloc hb2.size _, hF, (hm.kept hg (by simp)).alloc _, ?_, heap_alloc_new _ _, ?_, by omega⟩
  · have e : (madeCells (Value.bool false).cells (D.n * 1)).toList = bools (fun _ => false) D.n := by
      rw [Nat.mul_one]
      show (madeCells #[Value.bool false] D.n).toList = _
      rw [toList_madeCells_one]
      simp [bools, List.map_const']
    rw [e] at ho
    exact ho.alloc _
  · have h0 := heap_alloc_new w (.cells #[.map none, .slice none 0 0] 50 (0, 0))
    have h1 : ((w.alloc (.cells #[.map none, .slice none 0 0] 50 (0, 0))).alloc (.map #[] 0)).heap[w.heap.size]? = some (.cells #[.map none, .slice none 0 0] 50 (0, 0)) := (Below.heap_alloc _ _ _ (by simp)).trans h0
    have h2 : w3.heap[w.heap.size]? = some (.cells #[.map none, .slice none 0 0] 50 (0, 0)) := (hg.block _ (by simp; omega) (by simp)).trans h1
    exact (Below.heap_alloc _ _ _ (by omega)).trans h2
theorem LkAt.start {n : Nat} (hg : w.grownBy w3 none) (ho : w3.ownsRow 0 58 1 (.slice (some ⟨w.heap.size, 0, none⟩) n n) n (madeCells (Value.slice none 0 0).cells (n * 1)).toList) : LkAt w3 (w.heap.size + 1) w.heap.size n (.slice none 0 0) [] (fun _ => .slice none 0 0) (fun _ => []) := by
  have e : (madeCells (Value.slice none 0 0).cells (n * 1)).toList = valRow (fun _ => .slice none 0 0) n := by
    rw [Nat.mul_one]
    show (madeCells #[Value.slice none 0 0] n).toList = _
    rw [toList_madeCells_one]
    simp [valRow, List.map_const']
  rw [e] at ho
  exact ⟨ho, fun k hk => World.ownsRow_nil _ _ _ _, World.ownsRow_nil _ _ _ _, (fun k hk q hq hkq g hgk => by cases hgk), (fun k hk g hgk => by cases hgk), Nat.lt_succ_self _⟩
end
theorem InF.lay {w : World} {o : Obj} {e : Addr} {y0 y1 y2 y3 y4 : Int} (h : InF w e y0 y1 y2 y3 y4) (hl : e.block < w.heap.size) : InF (w.alloc o) e y0 y1 y2 y3 y4 := h.below ((Below.refl _ _).alloc (Nat.le_refl _) _) hl
theorem cell_lay {w : World} {b j : Nat} {v : Value} (h : w.cell? ⟨b, j, none⟩ = some v) (o : Obj) : (w.alloc o).cell? ⟨b, j, none⟩ = some v := by
  have hl : b < w.heap.size := by
    rcases Nat.lt_or_ge b w.heap.size with h' | h'
    · exact h'
    · simp [World.cell?, Array.getElem?_eq_none h'] at h
  exact ((Below.refl w.heap.size w).alloc (Nat.le_refl _) o).cell (p := ⟨b, j, none⟩) hl |>.trans h
theorem frozen_lay {w : World} {b j : Nat} (hl : b < w.heap.size) (h : w.frozen? ⟨b, j, none⟩ = false) (o : Obj) : (w.alloc o).frozen? ⟨b, j, none⟩ = false :=
  (((Below.refl w.heap.size w).alloc (Nat.le_refl _) o).frozen (p := ⟨b, j, none⟩) hl).trans h
theorem Fac.own_some {F : Fac} {i j a : Nat} (h : F.tg i j = some a) : F.own i j = false := by simp [own, h]
theorem Fac.own_none {F : Fac} {i j : Nat} {s : Bool} (h : F.tg i j = none) (hs : F.sn i j = s) : F.own i j = !s := by simp [own, h, hs]
theorem LkAt.mid {w w' : World} {lo bu n : Nat} {vw : Value} {l : List Nat} {V : Nat → Value} {U : Nat → List Nat} (h : LkAt w lo bu n vw l V U) (a : Nat) (ha : a < n) (hg : w.grownBy w' (V a).ownBlock) : w'.cell? ⟨bu, a, none⟩ = some (V a) ∧ w'.frozen? ⟨bu, a, none⟩ = false ∧ w'.grownBy (w'.setCell ⟨bu, a, none⟩ (.int .i64 0)) (some bu) := by
  have hne : (V a).ownBlock ≠ some bu := fun e => by have := ((h.row a ha).lt bu e).1; have := h.lo_; omega
  have hus := h.us.kept hg (.inr fun e => hne (by rw [← e]; rfl))
  refine ⟨?_, World.ownsRow.frozenAt hus a, (World.ownsRow.stored hus a _).2⟩
  rw [World.ownsRow.cellAt hus a (by omega), valRow_at _ _ _ ha]
theorem grown_one (w : World) (b j : Nat) (u : Value) : w.grownBy (w.setCell ⟨b, j, none⟩ u) (some b) :=
  ⟨rfl, rfl, rfl, by simp, fun k hk hne => Below.heap_setCell _ _ _ _ (fun e => hne (by simpa using e))⟩
set_option maxRecDepth 100000 in
set_option maxHeartbeats 8000000 in
theorem hlook_any (a : Option Addr) (D : FD) (cap : Nat) (sn : Nat → Nat → Bool) (w : World) (hF : FacAt w a D) (hS : SnOk D sn) :
    Calls Try.prog 19 #[.slice a D.n cap] w fun e w' => ∃ bm bo m M R, e = .returned (.agg #[.map (some bm), .slice (some ⟨bo, 0, none⟩) D.n D.n]) ∧ SvAt w' D bm bo m M R ∧ Hid (∀ x, x < D.n → (R x = true ↔ (D.fac sn).Reach x)) ∧ Below w.heap.size w w' := by
  have HF := Lib.hid hF
  have HSn := Lib.hid hS
  have hmm := @run_makeMap Try.prog
  obtain ⟨ib, hi1, hi2, hi3, hi4⟩ := info_parts hinfoB
  obtain ⟨is, hs1, hs2, hs3, hs4⟩ := info_parts hinfoS
  obtain ⟨ii, hj1, hj2, hj3, hj4⟩ := info_parts hinfoInt
  have HIB := Lib.hid (⟨hi1, hi2, hi3⟩ : Try.prog.info? 4 = some ib ∧ ib.zero = some (.bool false) ∧ ib.size = 1)
  have HIS := Lib.hid (⟨hs1, hs2, hs3⟩ : Try.prog.info? 58 = some is ∧ is.zero = some (.slice none 0 0) ∧ is.size = 1)
  have HII := Lib.hid (⟨hj1, hj2, hj3, hj4⟩ : Try.prog.info? 3 = some ii ∧ ii.zero = some (.int .i64 0) ∧ ii.size = 1 ∧ ii.bytes = 8)
  have few := hF.few
  have HN : Hid (ib.bytes * D.n ≤ 281474976710656 ∧ is.bytes * D.n ≤ 281474976710656 ∧ D.n ≤ maxLen) := Lib.hid (by rw [hi4, hs4]; unfold maxLen; omega)
  clear hi1 hi2 hi3 hi4 hs1 hs2 hs3 hs4 hj1 hj2 hj3 hj4 hF hS
  go_enter Try.func19, Try.ntmps19
  go_upto_region 2 with (first
    | (at_make; refine wpList_make_full _ rfl _ _ 48 rfl 0 4 ib (.bool false) 1 Try.underlying48 HIB.out.1 HIB.out.2.1 HIB.out.2.2 .i64 .i64 _ _ D.n rfl rfl rfl rfl HN.out.1 HN.out.2.2 (Nat.zero_le _) ?_; intro w3 hown hgrow; have HO := Lib.hid hown; have HG := Lib.hid hgrow; clear hown hgrow))
  clear hmm
  obtain ⟨sb, Hsb⟩ : ∃ sb, Hid (w3.heap.size = sb) := ⟨_, Lib.hid rfl⟩
  obtain ⟨bm, Hbm⟩ : ∃ bm, Hid (w.heap.size + 1 = bm) := ⟨_, Lib.hid rfl⟩
  obtain ⟨w4, hw4⟩ : ∃ w4, w4 = w3.alloc (.cells #[.map (some (w.heap.size + 1)), .slice (some ⟨w.heap.size + 1 + 1, 0, none⟩) D.n D.n] 50) := ⟨_, rfl⟩
  have H4 : Hid (HkAt w w4 a D w.heap.size bm (bm + 1) sb 0 (.map []) (fun _ => false)) := Lib.hid (by
    have h := HkAt.start HF.out (by simpa using HO.out) HG.out
    rw [hw4, ← Hsb.out, ← Hbm.out]
    exact h)
  rw [← hw4, Hsb.out]
  clear hw4 HO HG
  go_wp2_with fail
  go_loopw [27] (fun z wr => ∃ (m : Nat) (M : DataW Unit), m ≤ D.n ∧ z = .int .i64 m ∧ HkAt w wr a D w.heap.size bm (bm + 1) sb m M (fun _ => false) ∧ MapIs D m M) (fun z _ => D.n - (intOf z).toNat)
  case atStart => exact ⟨0, _, by omega, rfl, H4.out, MapIs.start D⟩
  case round =>
    obtain ⟨m, M, hm, rfl, hk, hmi⟩ := hrel
    have HK := Lib.hid hk
    have HMI := Lib.hid hmi
    clear hk hmi
    by_cases hlt : m < D.n
    · obtain ⟨ad, rfl, hbl, hrow, hw1, hw2⟩ := HF.out.row m hlt
      obtain ⟨i0, i1, i2, i3⟩ := hrow.below HK.out.bel hbl
      have HKN := Lib.hid (kN_is hw1 hw2)
      have HWF := Lib.hid (⟨hw1, hw2⟩ : wfH (D.id m) ∧ wfH (D.ver m))
      have m0 : (0 : Int) ≤ m := by omega
      have m1 : (m : Int) < D.n := by omega
      have hs0 := HK.out.s0
      have s0 : ∀ o o', ((wr.alloc o).alloc o').cell? ⟨sb, 0, none⟩ = some (.map (some bm)) := fun o o' => cell_lay (cell_lay hs0 o) o'
      have HB2 : Hid (∀ o o', Below wr.heap.size wr ((wr.alloc o).alloc o')) := Lib.hid fun o o' => ((Below.refl _ _).alloc (Nat.le_refl _) _).alloc (by simp) _
      clear hs0 hrow hw1 hw2 hbl
      cases hq : D.fidx (D.id m) (D.ver m) m with
      | some i =>
        have hh : Maps.has M (kN (D.id m) (D.ver m)) = true := by rw [HMI.out.has _ _ HWF.out.1 HWF.out.2, hq]; rfl
        have HQ := Lib.hid hq
        clear hq
        go_wp2_with (first | (at_lookup; refine wpList_lookup_own_ok_int _ rfl _ _ 47 rfl 55 3 .i64 lawN Try.underlying47 Try.underlying3 (zeroI _) _ m M rfl ((HK.out.mp.alloc _).alloc _) _ _ rfl HKN.out ?_; intro c hat hwc; clear hat hwc))
        go_roundw
        case rel => exact ⟨m + 1, _, by omega, by go_num, (HK.out.step (HB2.out _ _)).few (Nat.le_succ m), HMI.out.skip HQ.out⟩
        case measure => simp [intOf]; omega
      | none =>
        have hh : Maps.has M (kN (D.id m) (D.ver m)) = false := by rw [HMI.out.has _ _ HWF.out.1 HWF.out.2, hq]; rfl
        have HQ := Lib.hid hq
        have HML : Hid (m < maxLen) := Lib.hid (by have := HN.out.2.2; omega)
        have HWM : Hid ((Lit.int .i64 (m : Int)).wf = true) := Lib.hid (wfH.mk (by omega) (by have := HN.out.2.2; unfold maxLen at this; omega))
        clear hq
        go_wp2_with (first
          | (at_lookup; refine wpList_lookup_own_ok_int _ rfl _ _ 47 rfl 55 3 .i64 lawN Try.underlying47 Try.underlying3 (zeroI _) _ m M rfl ((HK.out.mp.alloc _).alloc _) _ _ rfl HKN.out ?_; intro c hat hwc; clear hat hwc)
          | (at_mapUpdate; refine wpList_mapUpdate_own _ rfl _ _ _ 47 rfl 55 3 lawN Try.underlying47 _ _ m M rfl ((HK.out.mp.alloc _).alloc _) HML.out _ _ _ rfl rfl HKN.out _ [] (plainElem_int Try.underlying3 HWM.out) ?_; intro w5 hown hgrow; have HK5 := Lib.hid ((HK.out.step (HB2.out _ _)).put hown hgrow); clear hown hgrow))
        go_roundw
        case rel => exact ⟨m + 1, _, by omega, by go_num, HK5.out, HMI.out.put HK.out.mp.isMap HQ.out HWF.out.1 HWF.out.2⟩
        case measure => simp [intOf]; omega
    · obtain rfl : m = D.n := by omega
      have hdd : decide (D.n < D.n) = false := by simp
      have HSB : Hid (sb < wr.heap.size) := Lib.hid HK.out.sl
      go_upto_region 12 with (first
        | (at_make; refine wpList_make_full _ rfl _ _ 57 rfl 0 58 is (.slice none 0 0) 1 Try.underlying57 HIS.out.1 HIS.out.2.1 HIS.out.2.2 .i64 .i64 _ _ D.n rfl rfl rfl rfl HN.out.2.1 HN.out.2.2 (Nat.zero_le _) ?_; intro w6 hown hgrow; have HL6 := Lib.hid (LkAt.start hgrow hown); have HK6 := Lib.hid (HK.out.up hgrow (fun g h => by cases h)); clear hown hgrow))
      obtain ⟨bu, Hbu⟩ : ∃ bu, Hid (wr.heap.size = bu) := ⟨_, Lib.hid rfl⟩
      rw [Hbu.out] at HL6 HSB
      rw [Hbu.out]
      clear Hbu HK
      go_wp2_with fail
      go_loopw [56, 10] (fun z vw wr => ∃ (m : Nat) (U : Nat → List Nat) (V : Nat → Value) (l : List Nat) (R : Nat → Bool), m ≤ D.n ∧ z = .int .i64 m ∧ LkAt wr (bu + 1) bu D.n vw l V U ∧ HkAt w wr a D w.heap.size bm (bm + 1) sb D.n M R ∧ UsOk (D.fac sn) m 0 U ∧ BkOk (D.fac sn) m R l) (fun z _ _ => D.n - (intOf z).toNat)
      case atStart => exact ⟨0, _, _, _, _, by omega, rfl, HL6.out, HK6.out, UsOk.start _, BkOk.start _ _⟩
      case round =>
        obtain ⟨m, U, V, l, R, hm, rfl, hl, hk, hu, hbk⟩ := hrel
        have HL := Lib.hid hl
        have HK := Lib.hid hk
        have HU := Lib.hid hu
        have HBk := Lib.hid hbk
        clear hl hk hu hbk hdd
        by_cases hlt : m < D.n
        · obtain ⟨ad, rfl, hbl, hrow, hw1, hw2⟩ := HF.out.row m hlt
          obtain ⟨i0, i1, i2, i3⟩ := hrow.below HK.out.bel hbl
          obtain ⟨pa, Hpa⟩ : ∃ pa, Hid (D.pa m = pa) := ⟨_, Lib.hid rfl⟩
          obtain ⟨ct, Hct⟩ : ∃ ct, Hid (D.ct m = ct) := ⟨_, Lib.hid rfl⟩
          obtain ⟨cp, Hcp⟩ : ∃ cp, Hid (D.cp m = cp) := ⟨_, Lib.hid rfl⟩
          obtain ⟨xi, Hxi⟩ : ∃ xi, Hid (D.id m = xi) := ⟨_, Lib.hid rfl⟩
          obtain ⟨xv, Hxv⟩ : ∃ xv, Hid (D.ver m = xv) := ⟨_, Lib.hid rfl⟩
          obtain ⟨xs, Hxs⟩ : ∃ xs, Hid (D.sl m = xs) := ⟨_, Lib.hid rfl⟩
          rw [Hpa.out, Hct.out, Hcp.out] at i3
          rw [Hxi.out] at i0
          rw [Hxv.out] at i1
          rw [Hxs.out] at i2
          have m0 : (0 : Int) ≤ m := by omega
          have m1 : (m : Int) < D.n := by omega
          have hs1 := HK.out.s1
          have s1 : ∀ o, (wr.alloc o).cell? ⟨sb, 1, none⟩ = some (.slice (some ⟨bm + 1, 0, none⟩) D.n D.n) := fun o => cell_lay hs1 o
          have hou := HK.out.ou.at_ m hlt
          have b1 : ∀ o, (wr.alloc o).cell? ⟨bm + 1, m, none⟩ = some (.bool (R m)) := fun o => cell_lay hou.1 o
          have f1 : ∀ o, (wr.alloc o).frozen? ⟨bm + 1, m, none⟩ = false := fun o => frozen_lay HK.out.ou.lt hou.2 o
          clear hs1 hou hrow hbl hw1 hw2
          go_upto_region 16 with fail
          obtain ⟨w7, hw7⟩ : ∃ w7, w7 = (wr.alloc (.cells #[.int .i64 xi, .int .i64 xv, .bool xs, .slice pa ct cp] 27)).setCell ⟨bm + 1, m, none⟩ (.bool !xs) := ⟨_, rfl⟩
          obtain ⟨fb, hfb⟩ : ∃ fb, fb = wr.heap.size := ⟨_, rfl⟩
          have HK7 : Hid (HkAt w w7 _ D w.heap.size bm (bm + 1) sb D.n M (updB R m (!xs))) := Lib.hid (by rw [hw7]; exact ((HK.out.step ((Below.refl _ _).alloc (Nat.le_refl _) _)).tell m hlt _).1)
          have HL7 : Hid (LkAt w7 (bu + 1) bu D.n u10 l V U) := Lib.hid (by
            have ho := HK.out.ord
            have h2 := HSB.out
            rw [hw7]
            exact (HL.out.below ((Below.refl _ _).alloc (Nat.le_refl _) _)).low ((HK.out.step ((Below.refl _ _).alloc (Nat.le_refl _) _)).tell m hlt _).2 (by omega) (by omega))
          have g3 : w7.cell? ⟨fb, 3, none⟩ = some (.slice pa ct cp) := by
            have ho := HK.out.ord
            have h2 := HK.out.sl
            rw [hw7, hfb]
            have hg := ((HK.out.step (w' := wr.alloc (.cells #[.int .i64 xi, .int .i64 xv, .bool xs, .slice pa ct cp] 27 (0, 0))) ((Below.refl _ _).alloc (Nat.le_refl _) _)).tell m hlt (!xs)).2
            exact hg.cell (a := ⟨wr.heap.size, 3, none⟩) (by simp) (by simp; omega)
          rw [← hw7, ← hfb]
          clear hw7 hfb i0 i1 i2 i3 s1 b1 f1
          go_wp2_with fail
          clear g3
          have HR0 : Hid (updB R m (!xs) m = (D.fac sn).baseTo m 0) := Lib.hid (by rw [updB_same, Fac.base0, ← Hxs.out]; rfl)
          go_loopw [71] (fun z wr => ∃ (q : Nat) (U : Nat → List Nat) (V : Nat → Value) (R' : Nat → Bool), q ≤ ct ∧ z = .int .i64 q ∧ LkAt wr (bu + 1) bu D.n u10 l V U ∧ HkAt w wr (some ad) D w.heap.size bm (bm + 1) sb D.n M R' ∧ UsOk (D.fac sn) m q U ∧ Hid (R' m = (D.fac sn).baseTo m q) ∧ Hid (∀ x, x < m → R' x = R x)) (fun z _ => ct - (intOf z).toNat)
          case atStart => exact ⟨0, U, V, _, by omega, rfl, HL7.out, HK7.out, HU.out, HR0, Lib.hid (fun x hx => updB_other _ _ _ _ (by omega))⟩
          case round =>
            obtain ⟨q, U2, V2, R2, hq, rfl, hl, hk, hu, hr1, hr2⟩ := hrel
            have HL2 := Lib.hid hl
            have HK2 := Lib.hid hk
            have HU2 := Lib.hid hu
            clear hl hk hu
            have h64 : ct ≤ 64 := by rw [← Hct.out]; exact HF.out.few2 m
            by_cases hlt2 : q < ct
            · obtain ⟨pd, hpa, hbl, hin, hw1, hw2⟩ := HF.out.part m hlt q (by rw [Hct.out]; exact hlt2)
              rw [Hpa.out] at hpa
              subst hpa
              have HS2 : Hid (Sens (D.key m q 0) (D.key m q 1) (D.key m q 2) (D.key m q 3) (D.key m q 4) (sn m q)) := Lib.hid (HSn.out m q hlt (by rw [Hct.out]; exact hlt2))
              have hin2 := hin.below HK2.out.bel hbl
              obtain ⟨tg, htg⟩ : ∃ tg, D.tgt (D.key m q 0) (D.key m q 1) (D.key m q 2) = tg := ⟨_, rfl⟩
              have HFT : Hid ((D.fac sn).tg m q = tg) := Lib.hid htg
              obtain ⟨k0, Hk0⟩ : ∃ k0, Hid (D.key m q 0 = k0) := ⟨_, Lib.hid rfl⟩
              obtain ⟨k1, Hk1⟩ : ∃ k1, Hid (D.key m q 1 = k1) := ⟨_, Lib.hid rfl⟩
              obtain ⟨k2, Hk2⟩ : ∃ k2, Hid (D.key m q 2 = k2) := ⟨_, Lib.hid rfl⟩
              obtain ⟨k3, Hk3⟩ : ∃ k3, Hid (D.key m q 3 = k3) := ⟨_, Lib.hid rfl⟩
              obtain ⟨k4, Hk4⟩ : ∃ k4, Hid (D.key m q 4 = k4) := ⟨_, Lib.hid rfl⟩
              rw [Hk0.out, Hk1.out, Hk2.out, Hk3.out, Hk4.out] at hin2 HS2
              rw [Hk0.out, Hk1.out, Hk2.out] at htg
              rw [Hk1.out] at hw1
              rw [Hk2.out] at hw2
              have HW := Lib.hid (⟨hw1, hw2⟩ : wfH k1 ∧ wfH k2)
              obtain ⟨i0, i1, i2, i3, i4⟩ := hin2
              have q0 : (0 : Int) ≤ q := by omega
              have q1 : (q : Int) < ct := by omega
              have hs0 := HK2.out.s0
              have hs1 := HK2.out.s1
              have s0 : ∀ o, (wr.alloc o).cell? ⟨sb, 0, none⟩ = some (.map (some bm)) := fun o => cell_lay hs0 o
              have s1 : ∀ o, (wr.alloc o).cell? ⟨sb, 1, none⟩ = some (.slice (some ⟨bm + 1, 0, none⟩) D.n D.n) := fun o => cell_lay hs1 o
              have HMI2 := HMI
              clear hs0 hs1 hw1 hw2 hin hbl
              cases tg with
              | some i =>
                have HT := Lib.hid htg
                have hi : i < D.n := FD.tgt_lt htg
                obtain ⟨ua, uc, hV, -, -⟩ := HL2.out.shape i hi
                have HV := Lib.hid hV
                have hul := HU2.out.len i
                have H6 : Hid (∀ W : World, wr.heap.size ≤ W.heap.size → (U2 i).length + 1 ≤ maxLen ∧ ((U2 i).length + 1) * 8 ≤ 140737488355328 ∧ ∀ o, bu + 1 ≤ (W.alloc o).heap.size) := Lib.hid (fun W hW => ⟨by unfold maxLen; omega, by omega, fun o => by have := HL2.out.ul; simp; omega⟩)
                have j0 : (0 : Int) ≤ i := by omega
                have j1 : (i : Int) < D.n := by omega
                clear htg hV hul
                go_wp2_with (first
                  | (go_at_call 23; (with_reducible refine (hfactory_some k0 k1 k2 k3 k4 D i bm (bm + 1) D.n D.n D.n M HT HW.out.1 HW.out.2 _ (HK2.out.mp.alloc _) HMI.out).mono ?_); rintro e w8 ⟨rfl, hb⟩; have HB8 : Hid (Below wr.heap.size wr w8) := Lib.hid (Below.trans ((Below.refl _ _).alloc (Nat.le_refl _) _) (hb.mono (by simp))); have H68 := Lib.hid (H6.out w8 HB8.out.size); have u0 := ((HL2.out.below HB8.out).at_ i hi).1; rw [HV.out] at u0; have hrw := (HL2.out.below HB8.out).row i hi; rw [HV.out] at hrw; have HR8 := Lib.hid hrw; clear hb hrw)
                  | ((at_builtin; refine wpList_append_own_at _ rfl _ _ 58 rfl (bu + 1) 3 ii (.int .i64 0) 1 8 Try.underlying58 HII.out.1 HII.out.2.1 HII.out.2.2.1 HII.out.2.2.2 rfl (by decide) _ _ _ rfl (HR8.out.alloc _) ⟨w8.heap.size, 0, none⟩ 1 1 [.int .i64 (m : Int)] rfl rfl (cell_one_new _ _ _) (int_one _) H68.out.1 H68.out.2.1 (H68.out.2.2 _) ?_; intro v' w9 hown hgrow hnil hloc; obtain ⟨va, vc, rfl⟩ := own_shape hown; have HOW := Lib.hid hown; have HGR := Lib.hid ((World.grownBy_alloc _ _ _).trans hgrow); have HLOC := Lib.hid hloc; clear hown hgrow hnil hloc); obtain ⟨z0, z1, z2⟩ := (HL2.out.below HB8.out).mid i hi (show w8.grownBy w9 (V2 i).ownBlock by rw [HV.out]; exact HGR.out); clear z2 u0))
                have HL8 := Lib.hid (HL2.out.below HB8.out)
                have hg8 : w8.grownBy w9 (V2 i).ownBlock := by rw [HV.out]; exact HGR.out
                have HLo : (Value.slice va ((U2 i).length + 1) vc).ownBlock = (V2 i).ownBlock ∨ ∃ z, (Value.slice va ((U2 i).length + 1) vc).ownBlock = some z ∧ w8.heap.size ≤ z := by
                  rcases HLOC.out with h | h
                  · exact .inl (by rw [HV.out]; exact h)
                  · exact .inr ⟨_, h, by simp⟩
                have HL9 := Lib.hid (HL8.out.push i hi HOW.out hg8 HLo)
                have HK9 := Lib.hid (((HK2.out.step HB8.out).up hg8 (fun g hg => by have := ((HL8.out.row i hi).lt g hg).1; have := HSB.out; omega)).up (grown_one w9 bu i (Value.slice va ((U2 i).length + 1) vc)) (fun g hg => by injection hg with hg; have := HSB.out; omega))
                clear hg8 HLo
                go_roundw
                case rel => exact ⟨q + 1, _, _, R2, by omega, by go_num, HL9.out, HK9.out, HU2.out.some HFT.out, Lib.hid (by rw [hr1.out, Fac.baseS, Fac.own_some HFT.out, Bool.or_false]), hr2⟩
                case measure => simp [intOf]; omega
              | none =>
                have HT := Lib.hid htg
                obtain ⟨sv, Hsv⟩ : ∃ sv, Hid (sn m q = sv) := ⟨_, Lib.hid rfl⟩
                rw [Hsv.out] at HS2
                have hou := HK2.out.ou
                clear htg
                cases sv with
                | true =>
                  go_wp2_with (first
                    | (go_at_call 23; (with_reducible refine (hfactory_none k0 k1 k2 k3 k4 D bm (bm + 1) D.n D.n D.n M HT HW.out.1 HW.out.2 _ (HK2.out.mp.alloc _) HMI.out).mono ?_); rintro e w8 ⟨rfl, hb⟩; obtain ⟨hc, hf⟩ := bcell hb; have HB8 : Hid (Below wr.heap.size wr w8) := Lib.hid (Below.trans ((Below.refl _ _).alloc (Nat.le_refl _) _) (hb.mono (by simp))); clear hb)
                    | (go_at_call 24; (with_reducible refine (HS2.out.at _).mono ?_); rintro e w9 ⟨rfl, hb⟩; have HB9 := Lib.hid (HB8.out.trans (hb.mono HB8.out.size)); clear hb hc hf))
                  go_roundw
                  case rel => exact ⟨q + 1, U2, V2, R2, by omega, by go_num, HL2.out.below HB9.out, HK2.out.step HB9.out, HU2.out.none HFT.out, Lib.hid (by rw [hr1.out, Fac.baseS, Fac.own_none HFT.out Hsv.out]; simp), hr2⟩
                  case measure => simp [intOf]; omega
                | false =>
                  go_wp2_with (first
                    | (go_at_call 23; (with_reducible refine (hfactory_none k0 k1 k2 k3 k4 D bm (bm + 1) D.n D.n D.n M HT HW.out.1 HW.out.2 _ (HK2.out.mp.alloc _) HMI.out).mono ?_); rintro e w8 ⟨rfl, hb⟩; obtain ⟨hc, hf⟩ := bcell hb; have HB8 : Hid (Below wr.heap.size wr w8) := Lib.hid (Below.trans ((Below.refl _ _).alloc (Nat.le_refl _) _) (hb.mono (by simp))); clear hb)
                    | (go_at_call 24; (with_reducible refine (HS2.out.at _).mono ?_); rintro e w9 ⟨rfl, hb⟩; have HB9 := Lib.hid (HB8.out.trans (hb.mono HB8.out.size)); clear hb hc hf s0 s1; have HK9 := Lib.hid (HK2.out.step HB9.out); have s1 := HK9.out.s1; obtain ⟨z0, z1⟩ := HK9.out.ou.at_ m hlt))
                  have HK10 := Lib.hid (HK9.out.tell m hlt true)
                  have HL10 := Lib.hid ((HL2.out.below HB9.out).low HK10.out.2 (by have := HK9.out.ord; have := HSB.out; omega) (by have := HK9.out.ord; have := HSB.out; omega))
                  go_roundw
                  case rel => exact ⟨q + 1, U2, V2, _, by omega, by go_num, HL10.out, HK10.out.1, HU2.out.none HFT.out, Lib.hid (by rw [updB_same, Fac.baseS, Fac.own_none HFT.out Hsv.out]; simp), Lib.hid (fun x hx => by rw [updB_other _ _ _ _ (by omega)]; exact hr2.out x hx)⟩
                  case measure => simp [intOf]; omega
            · obtain rfl : q = ct := by omega
              have hqq : decide (q < q) = false := by simp
              have HBs : Hid (R2 m = (D.fac sn).base m) := Lib.hid (by rw [hr1.out]; unfold Fac.base; rw [← Hct.out]; rfl)
              obtain ⟨bb, Hbb⟩ : ∃ bb, Hid (R2 m = bb) := ⟨_, Lib.hid rfl⟩
              have s1 := HK2.out.s1
              have b1 := (HK2.out.ou.at_ m hlt).1
              rw [Hbb.out] at b1
              have HU3 := Lib.hid (HU2.out.row (by rw [← Hct.out]; rfl) (HF.out.few2 m))
              cases bb with
              | true =>
                obtain ⟨wa, wc, hvw, -, -, -⟩ := HL2.out.wshape
                subst hvw
                have hbl := HBk.out.len
                have H6 : Hid (l.length + 1 ≤ maxLen ∧ (l.length + 1) * 8 ≤ 140737488355328 ∧ ∀ o, bu + 1 ≤ (wr.alloc o).heap.size) := Lib.hid ⟨by unfold maxLen; omega, by omega, fun o => by have := HL2.out.ul; simp; omega⟩
                clear hbl
                go_wp2_with (first
                  | (at_builtin; refine wpList_append_own_at _ rfl _ _ 58 rfl (bu + 1) 3 ii (.int .i64 0) 1 8 Try.underlying58 HII.out.1 HII.out.2.1 HII.out.2.2.1 HII.out.2.2.2 rfl (by decide) _ _ _ rfl (HL2.out.wk.alloc _) ⟨wr.heap.size, 0, none⟩ 1 1 [.int .i64 (m : Int)] rfl rfl (cell_one_new _ _ _) (int_one _) H6.out.1 H6.out.2.1 (H6.out.2.2 _) ?_; intro v' w9 hown hgrow hnil hloc; obtain ⟨va, vc, rfl⟩ := own_shape hown; have HOW := Lib.hid hown; have HGR := Lib.hid ((World.grownBy_alloc _ _ _).trans hgrow); have HLOC := Lib.hid hloc; clear hown hgrow hnil hloc))
                have HL9 := Lib.hid (HL2.out.more HOW.out HGR.out (by
                  rcases HLOC.out with h | h
                  · exact .inl h
                  · exact .inr ⟨_, h, by simp⟩))
                have HK9 := Lib.hid (HK2.out.up HGR.out (fun g hg => by have := (HL2.out.wk.lt g hg).1; have := HSB.out; omega))
                go_roundw
                case rel => exact ⟨m + 1, U2, V2, _, R2, by omega, by go_num, HL9.out, HK9.out, HU3.out, HBk.out.yes (by rw [← HBs.out, Hbb.out]) hr2.out Hbb.out⟩
                case measure => simp [intOf]; omega
              | false =>
                go_wp2_with fail
                go_roundw
                case rel => exact ⟨m + 1, U2, V2, l, R2, by omega, by go_num, HL2.out, HK2.out, HU3.out, HBk.out.no (by rw [← HBs.out, Hbb.out]) hr2.out Hbb.out⟩
                case measure => simp [intOf]; omega
        · obtain rfl : m = D.n := by omega
          have hdd : decide (D.n < D.n) = false := by simp
          have HWk : Hid (WkOk (D.fac sn) U R l) := Lib.hid (BkOk.work HBk.out)
          have HB0 : Hid (2 * fls R D.n + l.length ≤ 3 * D.n) := Lib.hid (by have h1 := fls_le R D.n; have h2 := HBk.out.len; omega)
          go_wp2_with fail
          clear hdd
          go_loopw [10] (fun vw wr => ∃ (l : List Nat) (R : Nat → Bool), LkAt wr (bu + 1) bu D.n vw l V U ∧ HkAt w wr a D w.heap.size bm (bm + 1) sb D.n M R ∧ WkOk (D.fac sn) U R l ∧ Hid (2 * fls R D.n + l.length ≤ 3 * D.n)) (fun vw wr => 2 * flsW wr (bm + 1) D.n + lenOf vw)
          case atStart => exact ⟨l, R, HL.out, HK.out, HWk.out, HB0⟩
          case round =>
            clear HL HK HBk HWk HB0
            obtain ⟨l, R, hl, hk, hw, HB0⟩ := hrel
            obtain ⟨wa, wc, hvw, hwa, hlc, hwm⟩ := hl.wshape
            have HL := Lib.hid hl
            have HK := Lib.hid hk
            have HWk := Lib.hid hw
            clear hl hk hw
            obtain ⟨ln, hln⟩ : ∃ ln, l.length = ln := ⟨_, rfl⟩
            rw [hln] at hvw hwa hlc
            have HLN := Lib.hid hln
            subst hvw
            clear hln
            have hs0 := HK.out.s0
            have hs1 := HK.out.s1
            by_cases h0 : ln = 0
            · subst h0
              have hl0 : l = [] := List.eq_nil_of_length_eq_zero HLN.out
              subst hl0
              have hrv := HK.out.rv
              have hrl := lt_of_block' hrv
              have r0 : wr.cell? ⟨w.heap.size, 0, none⟩ = some (.map none) := by simp [World.cell?, hrv]
              have r1 : wr.cell? ⟨w.heap.size, 1, none⟩ = some (.slice none 0 0) := by simp [World.cell?, hrv]
              have y0 : wr.frozen? ⟨w.heap.size, 0, none⟩ = false := by simp [World.frozen?, hrv]
              have y1 : wr.frozen? ⟨w.heap.size, 1, none⟩ = false := by simp [World.frozen?, hrv]
              clear hrv hwa hlc hwm
              go_wp2_with fail
              have ho := HK.out.ord
              have g0 := grown_one wr w.heap.size 0 (.map (some bm))
              have g1 := grown_one (wr.setCell ⟨w.heap.size, 0, none⟩ (.map (some bm))) w.heap.size 1 (.slice (some ⟨bm + 1, 0, none⟩) D.n D.n)
              have t1 : ((wr.setCell ⟨w.heap.size, 0, none⟩ (.map (some bm))).setCell ⟨w.heap.size, 1, none⟩ (.slice (some ⟨bm + 1, 0, none⟩) D.n D.n)).cell? ⟨w.heap.size, 1, none⟩ = some (.slice (some ⟨bm + 1, 0, none⟩) D.n D.n) := by go_simp
              have t0 : ((wr.setCell ⟨w.heap.size, 0, none⟩ (.map (some bm))).setCell ⟨w.heap.size, 1, none⟩ (.slice (some ⟨bm + 1, 0, none⟩) D.n D.n)).cell? ⟨w.heap.size, 0, none⟩ = some (.map (some bm)) := by go_simp
              refine bodyPost_ret (v := .agg #[.map (some bm), .slice (some ⟨bm + 1, 0, none⟩) D.n D.n]) (by simp [results, Try.results19, go_sem, t0, t1]) rfl ⟨bm, bm + 1, D.n, M, R, rfl, ⟨(HK.out.mp.kept g0 (by simp; omega)).kept g1 (by simp; omega), HMI.out, (HK.out.ou.kept g0 (by omega)).kept g1 (by omega)⟩, Lib.hid (HWk.out.all HU.out (fun i j b hb => FD.tgt_lt hb)), ?_⟩
              exact ((HK.out.bel.setCell (Nat.le_refl _) _).setCell (Nat.le_refl _) _)
            · obtain ⟨l1, i, rfl⟩ : ∃ l1 i, l = l1 ++ [i] := by
                rcases List.eq_nil_or_concat l with e | ⟨l1, i, e⟩
                · rw [e] at HLN; exact absurd HLN.out.symm h0
                · exact ⟨l1, i, by rw [e, List.concat_eq_append]⟩
              obtain ⟨p, hp⟩ : ∃ p, l1.length = p := ⟨_, rfl⟩
              have hlp : ln = p + 1 := by rw [← HLN.out, ← hp]; simp
              obtain ⟨g, rfl⟩ := hwa (by omega)
              have HLP := Lib.hid hlp
              have HPL := Lib.hid hp
              have cg : wr.cell? ⟨g, p, none⟩ = some (.int .i64 (i : Int)) := HL.out.todo (by rw [HLN.out]) (by rw [← hp]; simp)
              have HLp : Hid (LkAt wr (bu + 1) bu D.n (.slice (some ⟨g, 0, none⟩) p wc) l1 V U) := Lib.hid (by
                have h := HL.out
                rw [← HLN.out] at h
                have h2 := h.pop
                rwa [hp] at h2)
              have hi : i < D.n := (HWk.out.inn i (by simp)).1
              obtain ⟨ua, uc, hV, hua, -⟩ := HLp.out.shape i hi
              have u0 := (HLp.out.at_ i hi).1
              rw [hV] at u0
              have HV := Lib.hid hV
              obtain ⟨L, hL⟩ : ∃ L, (U i).length = L := ⟨_, rfl⟩
              have hul := HU.out.len i
              have hL2 : L ≤ 100000 := by rw [← hL]; omega
              rw [hL] at u0 hua
              have HLL := Lib.hid hL
              have e1 : (ln : Int) - 1 = (p : Int) := by omega
              have j0 : (0 : Int) ≤ i := by omega
              have j1 : (i : Int) < D.n := by omega
              have p0 : (0 : Int) ≤ p := by omega
              have p1 : (p : Int) < ln := by omega
              have p2 : (p : Int) ≤ wc := by omega
              have p3 : (0 : Int) < ln := by omega
              have p4 : decide (0 < ln) = true := decide_eq_true (by omega)
              have HWq : Hid (WqOk (D.fac sn) U R l1 i 0) := Lib.hid HWk.out.pop
              have HBq : Hid (2 * fls R D.n + l1.length + 1 ≤ 2 * fls R D.n + ln) := Lib.hid (by rw [hp]; omega)
              clear hp hlp hV hul hL h0 hs0
              go_wp2_with fail
              clear u0 cg e1 j0 j1 p0 p1 p2 p3 p4 hs1
              go_loopw [129, 10] (fun z vw wr => ∃ (q : Nat) (l2 : List Nat) (R2 : Nat → Bool), q ≤ L ∧ z = .int .i64 q ∧ LkAt wr (bu + 1) bu D.n vw l2 V U ∧ HkAt w wr a D w.heap.size bm (bm + 1) sb D.n M R2 ∧ WqOk (D.fac sn) U R2 l2 i q ∧ Hid (2 * fls R2 D.n + l2.length + 1 ≤ 2 * fls R D.n + ln)) (fun z _ _ => L - (intOf z).toNat)
              case atStart => exact ⟨0, l1, R, by omega, rfl, HLp.out, HK.out, HWq.out, HBq⟩
              case round =>
                obtain ⟨q, l2, R2, hq, rfl, hl, hk, hw, HB2⟩ := hrel
                obtain ⟨va, vc, hvw, -, -, -⟩ := hl.wshape
                have HL2 := Lib.hid hl
                have HK2 := Lib.hid hk
                have HW2 := Lib.hid hw
                obtain ⟨ln2, hln2⟩ : ∃ ln2, l2.length = ln2 := ⟨_, rfl⟩
                rw [hln2] at hvw
                have HLN2 := Lib.hid hln2
                subst hvw
                clear hl hk hw hln2
                by_cases hlt : q < L
                · obtain ⟨g2, rfl⟩ := hua (by omega)
                  obtain ⟨x, hx⟩ : ∃ x, (U i)[q]? = some x := ⟨_, List.getElem?_eq_getElem (by rw [HLL.out]; exact hlt)⟩
                  obtain ⟨hxn, hxr⟩ := HW2.out.user HU.out hx
                  have hxn' : x < D.n := hxn
                  have HX := Lib.hid hx
                  have HXR := Lib.hid hxr
                  have cx := HL2.out.user i hi HV.out hx
                  have hs1 := HK2.out.s1
                  have q0 : (0 : Int) ≤ q := by omega
                  have q1 : (q : Int) < L := by omega
                  have x0 : (0 : Int) ≤ x := by omega
                  have x1 : (x : Int) < D.n := by omega
                  obtain ⟨bx, Hbx⟩ : ∃ bx, Hid (R2 x = bx) := ⟨_, Lib.hid rfl⟩
                  obtain ⟨b1, f1⟩ := HK2.out.ou.at_ x hxn'
                  rw [Hbx.out] at b1
                  clear hx hxn hxr
                  cases bx with
                  | true =>
                    go_wp2_with fail
                    go_roundw
                    case rel => exact ⟨q + 1, l2, R2, by omega, by go_num, by rw [← HLN2.out]; exact (by have h := HL2.out; rw [← HLN2.out] at h; exact h), HK2.out, HW2.out.old HX.out Hbx.out, HB2⟩
                    case measure => simp [intOf]; omega
                  | false =>
                    go_upto_region 36 with fail
                    obtain ⟨w10, hw10⟩ : ∃ w10, w10 = wr.setCell ⟨bm + 1, x, none⟩ (.bool true) := ⟨_, rfl⟩
                    have HK10 : Hid (HkAt w w10 a D w.heap.size bm (bm + 1) sb D.n M (updB R2 x true)) := Lib.hid (by rw [hw10]; exact (HK2.out.tell x hxn' true).1)
                    have HL10 : Hid (LkAt w10 (bu + 1) bu D.n (.slice va ln2 vc) l2 V U) := Lib.hid (by
                      have ho := HK2.out.ord
                      have h2 := HSB.out
                      rw [hw10]
                      exact HL2.out.low (HK2.out.tell x hxn' true).2 (by omega) (by omega))
                    rw [← hw10]
                    clear hw10 b1 f1 cx hs1
                    have hrw : w10.ownsRow (bu + 1) 3 1 (.slice va ln2 vc) ln2 (natInts l2) := by have h := HL10.out.wk; rwa [HLN2.out] at h
                    have HR10 := Lib.hid hrw
                    have hbb := HB2.out
                    have hff := fls_le R D.n
                    have hbc := HB0.out
                    have hl3 := HLN2.out
                    have hl4 := HLN.out
                    have H6 : Hid (ln2 + 1 ≤ maxLen ∧ (ln2 + 1) * 8 ≤ 140737488355328 ∧ ∀ o, bu + 1 ≤ (w10.alloc o).heap.size) := Lib.hid ⟨by unfold maxLen; omega, by omega, fun o => by have := HL10.out.ul; simp; omega⟩
                    clear hrw hbb hff hbc hl3 hl4
                    go_wp2_with (first
                      | (at_builtin; refine wpList_append_own_at _ rfl _ _ 58 rfl (bu + 1) 3 ii (.int .i64 0) 1 8 Try.underlying58 HII.out.1 HII.out.2.1 HII.out.2.2.1 HII.out.2.2.2 rfl (by decide) _ _ _ rfl (HR10.out.alloc _) ⟨w10.heap.size, 0, none⟩ 1 1 [.int .i64 (x : Int)] rfl rfl (cell_one_new _ _ _) (int_one _) H6.out.1 H6.out.2.1 (H6.out.2.2 _) ?_; intro v' w9 hown hgrow hnil hloc; obtain ⟨va, vc, rfl⟩ := own_shape hown; have HOW := Lib.hid hown; have HGR := Lib.hid ((World.grownBy_alloc _ _ _).trans hgrow); have HLOC := Lib.hid hloc; clear hown hgrow hnil hloc))
                    have HL11 := Lib.hid (HL10.out.more (by rw [HLN2.out]; exact HOW.out) HGR.out (by
                      rcases HLOC.out with h | h
                      · exact .inl h
                      · exact .inr ⟨_, h, by simp⟩))
                    have HK11 := Lib.hid (HK10.out.up HGR.out (fun g hg => by have := (HL10.out.wk.lt g hg).1; have := HSB.out; omega))
                    go_roundw
                    case rel => exact ⟨q + 1, _, _, by omega, by go_num, HL11.out, HK11.out, HW2.out.new HX.out hxn' HXR.out, Lib.hid (by have h1 := fls_set Hbx.out D.n hxn'; have h2 := HB2.out; rw [List.length_append, List.length_singleton]; omega)⟩
                    case measure => simp [intOf]; omega
                · obtain rfl : q = L := by omega
                  have hqq : decide (q < q) = false := by simp
                  have HWe : Hid (WkOk (D.fac sn) U R2 l2) := Lib.hid (HW2.out.end HLL.out.symm)
                  have HM1 := Lib.hid (flsW_is HK.out.ou)
                  have HM2 := Lib.hid (flsW_is HK2.out.ou)
                  go_wp2_with fail
                  go_roundw
                  case rel => exact ⟨l2, R2, HL2.out, HK2.out, HWe.out, Lib.hid (by have := HB2.out; have := HB0.out; have := HLN.out; omega)⟩
                  case measure =>
                    have h1 := HM1.out
                    have h2 := HM2.out
                    have h3 := HB2.out
                    have h4 := HLN2.out
                    rw [h1, h2]
                    simp only [lenOf]
                    omega
end Go.Proofs.Ytahhnfhnlffmpaa
