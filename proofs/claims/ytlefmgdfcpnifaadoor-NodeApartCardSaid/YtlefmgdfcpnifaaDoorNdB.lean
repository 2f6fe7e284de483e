/-
  NodeBounds.
-/
import Derived.Test.YtlefmgdfcpnifaaDoorNdF
import Derived.Maps.AppendAt
namespace Go.Proofs.YtlefmgdfcpnifaaDoor
open Go.ChangeShapes Go.WideShapes Go.ChangeAt Go.RowKit
set_option linter.unusedVariables false
theorem infoKeyA : (Tryd.prog.info? 69).map (fun i => (i.zero, i.size, i.bytes)) = some (some keyZ, 5, 40) := by kernel_rfl
theorem five (q : Nat) (h : q < 5) : q = 0 ∨ q = 1 ∨ q = 2 ∨ q = 3 ∨ q = 4 := by omega
/-- One key's cells. -/
def k5 (y0 y1 y2 y3 y4 : Int) : List Value := [.int .i64 y0, .int .i64 y1, .int .i64 y2, .int .i64 y3, .int .u32 y4]
theorem kcs_one (kk : Nat → Nat → Int) (m : Nat) : kcs kk (m + 1) = kcs kk m ++ k5 (kk m 0) (kk m 1) (kk m 2) (kk m 3) (kk m 4) := by
  unfold kcs
  rw [show (m + 1) * 5 = m * 5 + 5 by omega, List.range_add, List.map_append]
  congr 1
  have e0 : (m * 5 + 0) / 5 = m ∧ (m * 5 + 0) % 5 = 0 := by omega
  have e1 : (m * 5 + 1) / 5 = m ∧ (m * 5 + 1) % 5 = 1 := by omega
  have e2 : (m * 5 + 2) / 5 = m ∧ (m * 5 + 2) % 5 = 2 := by omega
  have e3 : (m * 5 + 3) / 5 = m ∧ (m * 5 + 3) % 5 = 3 := by omega
  have e4 : (m * 5 + 4) / 5 = m ∧ (m * 5 + 4) % 5 = 4 := by omega
  simp only [show List.range 5 = [0, 1, 2, 3, 4] by rfl, List.map_cons, List.map_nil, e0.1, e0.2, e1.1, e1.2, e2.1, e2.2, e3.1, e3.2, e4.1, e4.2]
  rfl
theorem kcs_at (kk : Nat → Nat → Int) (m i q : Nat) (hi : i < m) (hq : q < 5) : (kcs kk m)[i * 5 + q]? = some (kval q (kk i q)) := by
  have h1 : i * 5 + q < m * 5 := by omega
  have h2 : (i * 5 + q) / 5 = i := by omega
  have h3 : (i * 5 + q) % 5 = q := by omega
  simp [kcs, h1, h2, h3]
/-- A row of keys of the law's own. -/
def KR (w : World) (bs g c' m : Nat) (kk : Nat → Nat → Int) : Prop := w.ownsRow bs 69 5 (.slice (some ⟨g, 0, none⟩) m c') m (kcs kk m)
theorem KR.src {w : World} {bs g c' m B G : Nat} {kk : Nat → Nat → Int} (h : KR w bs g c' m kk) (hB : B < bs) (hG : G < bs) : SrcK w (some ⟨g, 0, none⟩) m kk B G := ⟨fun i hi => by
  have hl := World.ownsRow.lt h g rfl
  refine ⟨⟨g, 0, none⟩, rfl, hl.2, by simp; omega, by simp; omega, fun q hq => ?_⟩
  rw [show Addr.add ⟨g, 0, none⟩ (i * 5 + q) = ⟨g, i * 5 + q, none⟩ by (unfold Addr.add; split <;> simp_all)]
  rw [World.ownsRow.cellAt h (i * 5 + q) (by omega)]
  exact kcs_at kk m i q hi hq⟩
theorem KR.lo {w : World} {bs g c' m : Nat} {kk : Nat → Nat → Int} (h : KR w bs g c' m kk) : bs ≤ g ∧ g < w.heap.size := World.ownsRow.lt h g rfl
theorem KR.same {w w' : World} {bs g c' m : Nat} {kk : Nat → Nat → Int} (h : KR w bs g c' m kk) (hb : w'.heap[g]? = w.heap[g]?) : KR w' bs g c' m kk := by
  refine ⟨h.1, ?_⟩
  rcases h.2 with hn | ⟨g1, cap, cur, hv, hB, hg, rest⟩
  · exact .inl hn
  · refine .inr ⟨g1, cap, cur, hv, hB, ?_, rest⟩
    have : g1 = g := by injection hv with e1 _ _; injection e1 with e1; injection e1 with e1; exact e1.symm
    rw [this] at hg ⊢
    rw [hb]
    exact hg
theorem KR.below {w w' : World} {bs g c' m : Nat} {kk : Nat → Nat → Int} (h : KR w bs g c' m kk) (hb : Below w.heap.size w w') : KR w' bs g c' m kk := h.same (hb.block g h.lo.2)
theorem KR.made {w w' : World} {bs g c' m B G : Nat} {kk : Nat → Nat → Int} (h : KR w bs g c' m kk) (hb : PBelow w w' B G) (hB : B < bs) (hG : G < bs) : KR w' bs g c' m kk := h.same (hb.2.2.2.2 g h.lo.2 (by have := h.lo.1; omega) (by have := h.lo.1; omega))
/-- Numbers, one behind the other. -/
def kkN (i q : Nat) : Int := if q = 0 then 1 else if q = 4 then (i : Int) else 0
theorem kkN_right (i : Nat) (hi : i ≤ 1000) : KRight kkN i := by
  unfold KRight
  simp only [kkN]
  simp [rightB, wB, hidOf, hverOf, hrOf, placesOf, dataMost]
  omega
theorem one_of_five {w : World} {T : TypeId} {y0 y1 y2 y3 y4 : Int} : ∀ j u, (k5 y0 y1 y2 y3 y4)[j]? = some u → (w.alloc (.cells #[.int .i64 y0, .int .i64 y1, .int .i64 y2, .int .i64 y3, .int .u32 y4] T (0, 0))).cell? (Addr.add ⟨w.heap.size, 0, none⟩ j) = some u := by
  intro j u hj
  have e : Addr.add ⟨w.heap.size, 0, none⟩ j = ⟨w.heap.size, j, none⟩ := by unfold Addr.add; split <;> simp_all
  rw [e]
  match j, hj with
  | 0, hj | 1, hj | 2, hj | 3, hj | 4, hj => simp [k5] at hj; subst hj; simp
  | j + 5, hj => simp [k5] at hj
theorem k5_one (y0 y1 y2 y3 y4 : Int) : ∀ u ∈ k5 y0 y1 y2 y3 y4, u.oneCell' = true := by
  intro u hu
  simp only [k5, List.mem_cons, List.not_mem_nil, or_false] at hu
  rcases hu with rfl | rfl | rfl | rfl | rfl <;> rfl
theorem own_any {w : World} {B E s n : Nat} {v : Value} {xs : List Value} (h : w.ownsRow B E s v n xs) : ∃ a c, v = .slice a n c ∧ (0 < n → ∃ g, a = some ⟨g, 0, none⟩) := by
  rcases h.2 with ⟨rfl, rfl⟩ | ⟨g, cap, cur, rfl, _⟩
  · exact ⟨none, 0, rfl, fun h => by omega⟩
  · exact ⟨_, cap, rfl, fun _ => ⟨g, rfl⟩⟩
/-- One key anew. -/
def kkS (kk : Nat → Nat → Int) (r : Nat) (y0 y1 y2 y3 y4 : Int) : Nat → Nat → Int := fun i q => if i = r then (if q = 0 then y0 else if q = 1 then y1 else if q = 2 then y2 else if q = 3 then y3 else y4) else kk i q
theorem kcs_set (kk : Nat → Nat → Int) (m r : Nat) (y0 y1 y2 y3 y4 : Int) (hr : r < m) : over (kcs kk m) (r * 5) (k5 y0 y1 y2 y3 y4) = kcs (kkS kk r y0 y1 y2 y3 y4) m := by
  apply List.ext_getElem?
  intro j
  have hl : (k5 y0 y1 y2 y3 y4).length = 5 := rfl
  rw [over_get _ _ _ _ (by rw [hl, kcs_len]; omega), hl]
  by_cases hj : j < m * 5
  · have e1 : j = j / 5 * 5 + j % 5 := by omega
    have hq : j % 5 < 5 := by omega
    have hi : j / 5 < m := by omega
    rw [show (kcs (kkS kk r y0 y1 y2 y3 y4) m)[j]? = some (kval (j % 5) (kkS kk r y0 y1 y2 y3 y4 (j / 5) (j % 5))) by (have h := kcs_at (kkS kk r y0 y1 y2 y3 y4) m (j / 5) (j % 5) hi hq; rwa [← e1] at h)]
    rw [show (kcs kk m)[j]? = some (kval (j % 5) (kk (j / 5) (j % 5))) by (have h := kcs_at kk m (j / 5) (j % 5) hi hq; rwa [← e1] at h)]
    by_cases h : r * 5 ≤ j ∧ j < r * 5 + 5
    · rw [if_pos h]
      have e2 : j / 5 = r := by omega
      have e3 : j - r * 5 = j % 5 := by omega
      rw [e2, e3]
      unfold kkS
      rw [if_pos rfl]
      generalize j % 5 = q at hq
      rcases five q hq with rfl | rfl | rfl | rfl | rfl <;> rfl
    · rw [if_neg h]
      have e2 : j / 5 ≠ r := by omega
      unfold kkS
      rw [if_neg e2]
  · rw [if_neg (by omega), List.getElem?_eq_none (by rw [kcs_len]; omega), List.getElem?_eq_none (by rw [kcs_len]; omega)]
theorem KR.set {w : World} {bs g c' m : Nat} {kk : Nat → Nat → Int} (h : KR w bs g c' m kk) (r : Nat) (hr : r < m) (y0 y1 y2 y3 y4 : Int) :
    KR (((((w.setCell ⟨g, r * 5, none⟩ (.int .i64 y0)).setCell ⟨g, r * 5 + 1, none⟩ (.int .i64 y1)).setCell ⟨g, r * 5 + 2, none⟩ (.int .i64 y2)).setCell ⟨g, r * 5 + 3, none⟩ (.int .i64 y3)).setCell ⟨g, r * 5 + 4, none⟩ (.int .u32 y4)) bs g c' m (kkS kk r y0 y1 y2 y3 y4)
    ∧ w.grownBy (((((w.setCell ⟨g, r * 5, none⟩ (.int .i64 y0)).setCell ⟨g, r * 5 + 1, none⟩ (.int .i64 y1)).setCell ⟨g, r * 5 + 2, none⟩ (.int .i64 y2)).setCell ⟨g, r * 5 + 3, none⟩ (.int .i64 y3)).setCell ⟨g, r * 5 + 4, none⟩ (.int .u32 y4)) (some g) := by
  have hs := own_setCells (k5 y0 y1 y2 y3 y4) (r * 5) _ _ h
  rw [kcs_set kk m r y0 y1 y2 y3 y4 hr] at hs
  exact hs
theorem KR.cells {w : World} {bs g c' m : Nat} {kk : Nat → Nat → Int} (h : KR w bs g c' m kk) (r q : Nat) (hr : r < m) (hq : q < 5) : w.cell? ⟨g, r * 5 + q, none⟩ = some (kval q (kk r q)) := by
  rw [World.ownsRow.cellAt h (r * 5 + q) (by omega)]
  exact kcs_at kk m r q hr hq
theorem KR.free {w : World} {bs g c' m : Nat} {kk : Nat → Nat → Int} (h : KR w bs g c' m kk) (j : Nat) : w.frozen? ⟨g, j, none⟩ = false := World.ownsRow.frozenAt h j
theorem NdAt.kept {w w' : World} {base P p B G n c g : Nat} {th : Nat → Bool} {vr_ : Nat → Int} {W : Nat → Nat → Value} (h : NdAt w base P p B G n c th vr_ W) (hg : w.grownBy w' (some g)) (h1 : P ≠ g) (h2 : p ≠ g) (h3 : B ≠ g) (h4 : G ≠ g) : NdAt w' base P p B G n c th vr_ W :=
  ⟨Nat.lt_of_lt_of_le h.pl hg.size, h.pb, (World.cell?_of_block (a := ⟨P, 0, none⟩) (hg.block P h.pl (fun e => h1 (by injection e)))).trans h.f0, (World.cell?_of_block (a := ⟨P, 1, none⟩) (hg.block P h.pl (fun e => h1 (by injection e)))).trans h.f1, h.ar.kept hg h2 h3, h.row.kept hg (.inr (fun e => h4 (by simpa [Value.ownBlock] using e))), h.n1, h.n2, h.n3, h.n4⟩
theorem NV.kept {W0 w w' : World} {base P p B G n c g : Nat} {th : Nat → Bool} {vr_ : Nat → Int} {W : Nat → Nat → Value} (h : NV W0 w base P p B G n c th vr_ W) (hg : w.grownBy w' (some g)) (h0 : W0.heap.size ≤ g) (h1 : P ≠ g) (h2 : p ≠ g) (h3 : B ≠ g) (h4 : G ≠ g) : NV W0 w' base P p B G n c th vr_ W :=
  ⟨h.bel.grown hg h.bel.size (fun k hk => by injection hk with e; omega), h.wb, h.nd.kept hg h1 h2 h3 h4⟩
set_option maxRecDepth 100000 in
set_option maxHeartbeats 4000000 in
theorem bounds_any (n0 b0 : Int) (g1 : -9223372036854775808 ≤ n0) (g2 : n0 ≤ 9223372036854775807) (g3 : -9223372036854775808 ≤ b0) (g4 : b0 ≤ 9223372036854775807) (w : World) (A : Nat → Addr) (hS : Sen A w) :
    Calls Tryd.prog 11 #[.int .i64 n0, .int .i64 b0] w fun e w' => e = .returned (.bool true) ∧ Below w.heap.size w w' := by
  have HS := Lib.hid hS
  have HE : Hid (ErrsAt (eV (sA A 1)) (eV (sA A 2)) w) := Lib.hid ⟨hS.c1, hS.c2, hS.s1, hS.s2⟩
  obtain ⟨R, hR, CR⟩ := number_nat n0 24 24 rfl (by decide) (by decide) g1 g2
  have CR' := Lib.hid CR
  have G3 := Lib.hid g3
  have G4 := Lib.hid g4
  obtain ⟨i0, hi, hz0, hz1, hz2⟩ := info_parts infoKeyA
  have HI := Lib.hid (⟨hi, hz0, hz1, hz2⟩ : Tryd.prog.info? 69 = some i0 ∧ i0.zero = some keyZ ∧ i0.size = 5 ∧ i0.bytes = 40)
  clear CR g1 g2 g3 g4 hS hi hz0 hz1 hz2
  go_enter Tryd.func11, Tryd.ntmps11
  go_wp2_with (first
    | (go_at_call 35; (with_reducible refine (nfirst_is _ _ _ HE.out).mono ?_); rintro e w1 ⟨rfl, hb1⟩; have HB1 := Lib.hid hb1; clear hb1)
    | (go_at_call 26; (with_reducible refine (CR'.out _).mono ?_); rintro e w2 ⟨rfl, rfl⟩)
    | (go_at_call 36; (with_reducible refine (nnew_ok 3 3 (Lib.hid rfl) (by decide) (by decide) _).mono ?_); rintro e w2 ⟨P, p, B, G, rfl, hP, hb⟩; have HV : Hid (NV w w2 w1.heap.size P p B G 3 3 (fun _ => false) (fun _ => 0) (fun _ b => zc b)) := Lib.hid ⟨HB1.out.trans (hb.mono HB1.out.size), HB1.out.size, hP⟩; clear hP hb))
  have HP : Hid (P < w2.heap.size ∧ p < w2.heap.size ∧ B < w2.heap.size ∧ G < w2.heap.size ∧ w.heap.size ≤ w2.heap.size) := Lib.hid ⟨HV.out.nd.pl, HV.out.nd.ar.pl, HV.out.nd.ar.lt.2, (HV.out.nd.row.lt G rfl).2, HV.out.bel.size⟩
  go_loopw [8, 9] (fun v z wr => ∃ m : Nat, m ≤ R ∧ z = .int .i64 m ∧ wr.ownsRow w2.heap.size 69 5 v m (kcs kkN m) ∧ Below w2.heap.size w2 wr) (fun _ z _ => R - (intOf z).toNat)
  case atStart => exact ⟨0, by omega, rfl, World.ownsRow_nil _ _ _ _, Below.refl _ _⟩
  case round =>
    obtain ⟨m, hm, rfl, hown, hbel⟩ := hrel
    have HW := Lib.hid hown
    have HL := Lib.hid hbel
    clear hown hbel
    by_cases hlt : m < R
    · have k0 : (0 : Int) ≤ m := by omega
      have hwr : IntKind.u32.wrap (m : Int) = m := by rw [IntKind.wrap_u32]; omega
      go_wp2_with (first
        | (at_builtin; refine wpList_append_own _ rfl _ _ 72 rfl w2.heap.size 69 i0 keyZ 5 40 Tryd.underlying72 HI.out.1 HI.out.2.1 HI.out.2.2.1 HI.out.2.2.2 rfl (by decide) _ _ _ rfl (HW.out.alloc _) ⟨wr.heap.size, 0, none⟩ 1 1 (k5 1 0 0 0 m) rfl rfl one_of_five (k5_one _ _ _ _ _) (by unfold maxLen; omega) (by omega) (by have := HL.out.size; simp; omega) ?_; intro v' w3 hown' hgrow' _; have HB2 : Hid (Below w2.heap.size w2 w3) := Lib.hid ((HL.out.alloc HL.out.size _).grown hgrow' (by have := HL.out.size; simp; omega) (fun g hg => (HW.out.lt g hg).1)); have HO2 : Hid (w3.ownsRow w2.heap.size 69 5 v' (m + 1) (kcs kkN (m + 1))) := Lib.hid (by rw [kcs_one]; exact hown'); clear hown' hgrow'))
      go_roundw
      case rel => exact ⟨m + 1, by omega, by go_num, HO2.out, HB2.out⟩
      case measure => simp [intOf]; omega
    · obtain rfl : m = R := by omega
      obtain ⟨a, c', rfl, hsl⟩ := own_any HW.out
      have HVr : Hid (NV w wr w1.heap.size P p B G 3 3 (fun _ => false) (fun _ => 0) (fun _ b => zc b)) := Lib.hid (HV.out.step HL.out)
      have HEr := Lib.hid (HE.out.below HVr.out.bel)
      have HSr := Lib.hid (HS.out.below HVr.out.bel)
      by_cases h16 : 16 < m
      · have d16 : decide ((16 : Int) < (m : Int)) = true := by simp; omega
        have HF := Lib.hid (nfits_many a m c' h16 (eV (sA A 3)) _ HSr.out.c3)
        clear hsl
        go_wp2_with (first
          | (go_at_call 40; (with_reducible refine (nmake_err (sA A 3) a m c' _ HVr.out.nd HF).mono ?_); rintro e w4 ⟨rfl, hb⟩; have HV4 := Lib.hid (HVr.out.step hb); clear hb)
          | (go_at_call 16; (with_reducible refine (is_sen A 3 104 (by decide) (Lib.hid (by decide)) _ (HS.out.below HV4.out.bel)).mono ?_); rintro e w5 ⟨rfl, hb⟩; have HV5 := Lib.hid (HV4.out.step hb); have f0 := HV5.out.nd.f0; clear hb)
          | (go_at_call 18; (with_reducible refine (aused_at (n := 3) (th := fun _ => false) 0 _ HV5.out.nd.ar (Lib.hid (by decide))).mono ?_); rintro e w6 ⟨rfl, hb⟩; have HV6 := Lib.hid (HV5.out.step hb); clear hb))
        go_ret
        exact ⟨rfl, HV6.out.bel⟩
      · have d16 : decide ((16 : Int) < (m : Int)) = false := by simp; omega
        have HR : Hid (∀ i, i < m → KRight kkN i) := Lib.hid (fun i hi => kkN_right i (by omega))
        have HSK : Hid (SrcK wr a m kkN B G) := Lib.hid (by
          by_cases h0 : 0 < m
          · obtain ⟨g, rfl⟩ := hsl h0
            exact KR.src HW.out HP.out.2.2.1 HP.out.2.2.2.1
          · exact ⟨fun i hi => by omega⟩)
        have HU1 : Hid (((cntB (upd (fun _ => false) 0 true) 3 : Nat) : Int) = 1) := Lib.hid (by decide)
        have HF0 : Hid (freeB (fun _ => false) (fun _ => 0) 0 = true) := Lib.hid (by decide)
        by_cases h0 : m = 0
        · subst h0
          go_wp2_with (first
            | (go_at_call 40; (with_reducible refine (nmake_at (n := 3) 0 _ _ a 0 c' kkN (by decide) HR 0 (Lib.hid rfl) (by decide) HF0 (Lib.hid (by intro i hi; omega)) 0 (Lib.hid rfl) _ HEr.out HVr.out.nd HSK.out).mono ?_); rintro e w4 ⟨rfl, hM, hb⟩; have HV4 := Lib.hid (HVr.out.made hM hb); have f0 := HV4.out.nd.f0; clear hM hb)
            | (go_at_call 18; (with_reducible refine (aused_at (n := 3) 1 _ HV4.out.nd.ar HU1).mono ?_); rintro e w6 ⟨rfl, hb⟩; have HV6 := Lib.hid (HV4.out.step hb); have f6 := HV6.out.nd.f0; clear hb f0)
            | (go_at_call 18; (with_reducible refine (aused_at (n := 3) 1 _ HV6.out.nd.ar HU1).mono ?_); rintro e w7 ⟨rfl, hb⟩; have HV7 := Lib.hid (HV6.out.step hb); clear hb))
          go_ret
          exact ⟨rfl, HV7.out.bel⟩
        · obtain ⟨g, rfl⟩ := hsl (by omega)
          obtain ⟨r, hr, CB⟩ := number_nat b0 m m rfl (by omega) (by omega) G3.out G4.out
          have CB' := Lib.hid CB
          have HRb : Hid (∀ i, i < r → KRight (kkS kkN r 77 0 0 0 0) i) := Lib.hid (fun i hi => by
            have h := kkN_right i (by omega)
            have e : i ≠ r := by omega
            unfold KRight kkS at *
            simpa [e] using h)
          have HZb : Hid (kErr (eV (sA A 1)) (eV (sA A 2)) (kkS kkN r 77 0 0 0 0 r 0) (kkS kkN r 77 0 0 0 0 r 1) (kkS kkN r 77 0 0 0 0 r 2) (kkS kkN r 77 0 0 0 0 r 3) (kkS kkN r 77 0 0 0 0 r 4) = eV (sA A 1)) := Lib.hid (by simp [kkS, kErr, rightB, wB])
          have hm0 : ((m : Int) == 0) = false := by simp; omega
          clear CB hsl
          go_wp2_with (first
            | (go_at_call 40; (with_reducible refine (nmake_at (n := 3) 0 _ _ (some ⟨g, 0, none⟩) m c' kkN (by omega) HR 0 (Lib.hid rfl) (by decide) HF0 (Lib.hid (by intro i hi; omega)) 0 (Lib.hid rfl) _ HEr.out HVr.out.nd HSK.out).mono ?_); rintro e w4 ⟨rfl, hM, hb⟩; have HV4 := Lib.hid (HVr.out.made hM hb); have HK4 : Hid (KR w4 w2.heap.size g c' m kkN) := Lib.hid (KR.made HW.out hb HP.out.2.2.1 HP.out.2.2.2.1); have f0 := HV4.out.nd.f0; clear hM hb)
            | (go_at_call 18; (with_reducible refine (aused_at (n := 3) 1 _ HV4.out.nd.ar HU1).mono ?_); rintro e w6 ⟨rfl, hb⟩; have HV6 := Lib.hid (HV4.out.step hb); have HK6 := Lib.hid (HK4.out.below hb); clear hb f0)
            | (go_at_call 26; (with_reducible refine (CB'.out _).mono ?_); rintro e w7 ⟨rfl, rfl⟩; have HK7 := Lib.hid (HK6.out.set r hr 77 0 0 0 0); have k0 : (0 : Int) ≤ r := (by omega); have k1 : (r : Int) < m := (by omega); have c0 := HK6.out.cells r 0 hr (by decide); have c1 := HK6.out.cells r 1 hr (by decide); have c2 := HK6.out.cells r 2 hr (by decide); have c3 := HK6.out.cells r 3 hr (by decide); have c4 := HK6.out.cells r 4 hr (by decide); rw [Nat.add_zero] at c0; have z0 := HK6.out.free (r * 5); have z1 := HK6.out.free (r * 5 + 1); have z2 := HK6.out.free (r * 5 + 2); have z3 := HK6.out.free (r * 5 + 3); have z4 := HK6.out.free (r * 5 + 4); have HV7 := Lib.hid (HV6.out.kept HK7.out.2 (by have := HP.out; have := HK6.out.lo; omega) (by have := HP.out; have := HK6.out.lo; omega) (by have := HP.out; have := HK6.out.lo; omega) (by have := HP.out; have := HK6.out.lo; omega) (by have := HP.out; have := HK6.out.lo; omega)); have HF7 := Lib.hid (nfits_bad (B := B) (G := G) (eV (sA A 1)) (eV (sA A 2)) (sA A 1) (some ⟨g, 0, none⟩) m c' r (by omega) hr (kkS kkN r 77 0 0 0 0) HRb HZb _ (HE.out.below HV7.out.bel) (HK7.out.1.src HP.out.2.2.1 HP.out.2.2.2.1)))
            | (go_at_call 40; (with_reducible refine (nmake_err (sA A 1) (some ⟨g, 0, none⟩) m c' _ HV7.out.nd HF7).mono ?_); rintro e w8 ⟨rfl, hb⟩; have HV8 := Lib.hid (HV7.out.step hb); clear hb)
            | (go_at_call 16; (with_reducible refine (is_sen A 1 102 (by decide) (Lib.hid (by decide)) _ (HS.out.below HV8.out.bel)).mono ?_); rintro e w9 ⟨rfl, hb⟩; have HV9 := Lib.hid (HV8.out.step hb); have f0 := HV9.out.nd.f0; clear hb)
            | (go_at_call 18; (with_reducible refine (aused_at (n := 3) 1 _ HV9.out.nd.ar HU1).mono ?_); rintro e w10 ⟨rfl, hb⟩; have HV10 := Lib.hid (HV9.out.step hb); clear hb))
          go_ret
          exact ⟨rfl, HV10.out.bel⟩
theorem walk_NodeBounds (a0 : Int) (a1 : Int) (w : World) (w0 : (Lit.int .i64 a0).wf = true) (w1 : (Lit.int .i64 a1).wf = true) (hL : laidMetH Tryd.prog Rows.nodeBoundsRow.laid w) :
    Calls Tryd.prog 11 #[.int .i64 a0, .int .i64 a1] w fun e w' => e = .returned (.bool true) ∧ Below w.heap.size w w' :=
  bounds_any a0 a1 (i64_fit w0).1 (i64_fit w0).2 (i64_fit w1).1 (i64_fit w1).2 w _ (sen_of hL (by intro n hn; simp only [List.mem_cons, List.not_mem_nil, or_false] at hn; rcases hn with rfl | rfl | rfl | rfl | rfl | rfl | rfl | rfl | rfl | rfl | rfl | rfl <;> exact ⟨_, by repeat (first | exact List.Mem.head _ | apply List.Mem.tail)⟩))
end Go.Proofs.YtlefmgdfcpnifaaDoor
