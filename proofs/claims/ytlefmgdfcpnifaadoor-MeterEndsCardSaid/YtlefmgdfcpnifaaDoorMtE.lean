/-
  MeterEnds.
-/
import Derived.Test.YtlefmgdfcpnifaaDoorMt7
import Derived.Test.YtlefmgdfcpnifaaDoorSen
import Derived.Deep.DeepCutAuto
import Derived.Deep.CutBlock
namespace Go.Proofs.YtlefmgdfcpnifaaDoor
open Go.ChangeShapes Go.WideShapes Go.ChangeAt Go.RowKit
set_option linter.unusedVariables false
/-- The law's row of parents. -/
def UR (w : World) (bs g c' u : Nat) (pr : Nat → Int) : Prop := w.ownsRow bs 3 1 (.slice (some ⟨g, 0, none⟩) u c') u ((List.range u).map fun i => Value.int .i64 (pr i))
section
variable {W0 w w' w2 : World} {base P p B G n c bs g c' u : Nat} {th th' : Nat → Bool} {vr vr' pr pr' tk tk' : Nat → Int}
theorem MtAt.kept (h : MtAt w base P p B G n c th vr pr tk) (hg : w.grownBy w' (some g)) (h1 : P ≠ g) (h2 : p ≠ g) (h3 : B ≠ g) (h4 : G ≠ g) : MtAt w' base P p B G n c th vr pr tk :=
  ⟨Nat.lt_of_lt_of_le h.pl hg.size, h.pb, (World.cell?_of_block (a := ⟨P, 0, none⟩) (hg.block P h.pl (fun e => h1 (by injection e)))).trans h.f0, (World.cell?_of_block (a := ⟨P, 1, none⟩) (hg.block P h.pl (fun e => h1 (by injection e)))).trans h.f1, h.ar.kept hg h2 h3, h.row.kept hg (.inr (fun e => h4 (by simpa [Value.ownBlock] using e))), h.n1, h.n2, h.n3, h.n4⟩
theorem UR.at (h : UR w bs g c' u pr) (k : Nat) (hk : k < u) : w.cell? ⟨g, k, none⟩ = some (.int .i64 (pr k)) := by
  have h1 := World.ownsRow.cellAt h k (by omega)
  rw [h1]
  simp [hk]
theorem UR.own (h : UR w bs g c' u pr) : w.ownsRow bs 3 1 (.slice (some ⟨g, 0, none⟩) u c') u ((List.range u).map fun i => Value.int .i64 (pr i)) := h
theorem UR.lo (h : UR w bs g c' u pr) : bs ≤ g ∧ g < w.heap.size := World.ownsRow.lt h g rfl
theorem UR.same (h : UR w bs g c' u pr) (hb : w'.heap[g]? = w.heap[g]?) : UR w' bs g c' u pr := by
  refine ⟨h.1, ?_⟩
  rcases h.2 with hn | ⟨g1, cap, cur, hv, hB, hg, rest⟩
  · exact .inl hn
  · refine .inr ⟨g1, cap, cur, hv, hB, ?_, rest⟩
    have : g1 = g := by injection hv with e1 _ _; injection e1 with e1; injection e1 with e1; exact e1.symm
    rw [this] at hg ⊢
    rw [hb]
    exact hg
theorem UR.below (h : UR w bs g c' u pr) (hb : Below w.heap.size w w') : UR w' bs g c' u pr := h.same (hb.block g h.lo.2)
theorem UR.made (h : UR w bs g c' u pr) (hb : PBelow w w' B G) (hB : B < bs) (hG : G < bs) : UR w' bs g c' u pr := h.same (hb.2.2.2.2 g h.lo.2 (by have := h.lo.1; omega) (by have := h.lo.1; omega))
theorem UR.congr (h : UR w bs g c' u pr) (h1 : ∀ i, i < u → pr i = pr' i) : UR w bs g c' u pr' := by
  have e : ((List.range u).map fun i => Value.int .i64 (pr i)) = ((List.range u).map fun i => Value.int .i64 (pr' i)) := List.map_congr_left (fun i hi => by rw [h1 i (List.mem_range.1 hi)])
  unfold UR at h ⊢
  rw [← e]
  exact h
/-- Meters and their parents over the law's start. -/
structure EV (W0 w : World) (base P p B G bs g c' u : Nat) (pr tk : Nat → Int) : Prop where
  mv : MV W0 w base P p B G 10 10 (thK u) (fun _ => 0) pr tk
  ps : ∀ i, i < u → -1 ≤ pr i ∧ pr i < (i : Int)
  lo : P < bs ∧ p < bs ∧ B < bs ∧ G < bs ∧ W0.heap.size ≤ bs
  ru : UR w bs g c' u pr
theorem EV.step (h : EV W0 w base P p B G bs g c' u pr tk) (hb : Below w.heap.size w w') : EV W0 w' base P p B G bs g c' u pr tk := ⟨h.mv.step hb, h.ps, h.lo, h.ru.below hb⟩
/-- One more is made. -/
structure EW (W0 w : World) (base P p B G bs g c' u : Nat) (pr tk : Nat → Int) (r : Nat) : Prop where
  mv : MV W0 w base P p B G 10 10 (thK (u + 1)) (fun _ => 0) pr tk
  ps : ∀ i, i < u + 1 → -1 ≤ pr i ∧ pr i < (i : Int)
  lo : P < bs ∧ p < bs ∧ B < bs ∧ G < bs ∧ W0.heap.size ≤ bs
  ru : UR w bs g c' u pr
  at' : pr u = r
theorem EV.made (h : EV W0 w base P p B G bs g c' u pr tk) (r : Nat) (hr : r < u) (x : Int) (hM : MtAt w' base P p B G 10 10 (upd (thK u) u true) (fun _ => 0) (upd pr u r) (upd tk u x)) (hb : PBelow w w' B G) : EW W0 w' base P p B G bs g c' u (upd pr u r) (upd tk u x) r := by
  refine ⟨(h.mv.made hM hb).congr (fun i _ => ?_) (fun _ _ => rfl) (fun _ _ => rfl), fun i hi => ?_, h.lo, (h.ru.made hb h.lo.2.2.1 h.lo.2.2.2.1).congr (fun i hi => ?_), by simp [upd]⟩
  · unfold upd thK
    by_cases e : i = u <;> simp [e] <;> omega
  · by_cases e : i = u
    · subst e; simp [upd]; omega
    · have := h.ps i (by omega)
      unfold upd
      rw [if_neg e]
      exact this
  · unfold upd
    rw [if_neg (by omega)]
theorem EW.more {r : Nat} (h : EW W0 w base P p B G bs g c' u pr tk r) (o : Obj) (v' : Value) (hown : w2.ownsRow bs 3 1 v' (u + 1) (((List.range u).map fun i => Value.int .i64 (pr i)) ++ [.int .i64 r])) (hg : (w.alloc o).grownBy w2 (some g)) : ∃ g2 c2, v' = .slice (some ⟨g2, 0, none⟩) (u + 1) c2 ∧ EV W0 w2 base P p B G bs g2 c2 (u + 1) pr tk := by
  obtain ⟨g2, c2, rfl⟩ := own_sl hown (by omega)
  have hlo := h.lo
  have hgl := h.ru.lo
  have h1 := h.mv.step ((Below.refl _ w).alloc (Nat.le_refl _) o)
  refine ⟨g2, c2, rfl, ⟨⟨?_, h1.wb, h1.mt.kept hg (by omega) (by omega) (by omega) (by omega)⟩, h.ps, h.lo, ?_⟩⟩
  · exact h1.bel.grown hg h1.bel.size (fun k hk => by injection hk with e; omega)
  · unfold UR
    rw [List.range_succ, List.map_append, List.map_cons, List.map_nil, h.at']
    exact hown
end
set_option maxRecDepth 100000 in
set_option maxHeartbeats 8000000 in
theorem ends_small (a : Option Addr) (len cap : Nat) (zs : List Int) (t : Int) (g1 : -9223372036854775808 ≤ t) (g2 : t ≤ 9223372036854775807) (hl : len ≤ 8) (w : World) (ha0 : a = none → len = 0) (hN : Nums w a len zs) (A : Nat → Addr) (hS : Sen A w) :
    Calls Tryd.prog 13 #[.slice a len cap, .int .i64 t] w fun e w' => e = .returned (.bool true) ∧ Below w.heap.size w w' := by
  have HN := Lib.hid hN
  have HS := Lib.hid hS
  have HA0 := Lib.hid ha0
  have hd : decide ((8 : Int) < (len : Int)) = false := by simp; omega
  obtain ⟨i0, hi, hz0, hz1, hz2⟩ := info_parts infoIntM
  have HI := Lib.hid (⟨hi, hz0, hz1, hz2⟩ : Tryd.prog.info? 3 = some i0 ∧ i0.zero = some (.int .i64 0) ∧ i0.size = 1 ∧ i0.bytes = 8)
  have G1 := Lib.hid g1
  have G2 := Lib.hid g2
  clear hN hS ha0 g1 g2 hi hz0 hz1 hz2
  go_enter Tryd.func13, Tryd.ntmps13
  go_upto_block 0 with (first
    | (go_at_call 46; refine (mfirst_is _).mono ?_; rintro e w1 ⟨rfl, hb1⟩; have HB1 := Lib.hid hb1; clear hb1)
    | (go_at_call 47; (with_reducible refine (mnew_ok 10 10 (Lib.hid rfl) (by decide) (by decide) _).mono ?_); rintro e w2 ⟨P, p, B, G, rfl, hP, hb⟩; have HV : Hid (MV w w2 w1.heap.size P p B G 10 10 (thK 0) (fun _ => 0) (fun _ => 0) (fun _ => 0)) := Lib.hid ⟨HB1.out.trans (hb.mono HB1.out.size), HB1.out.size, hP.congr (fun i _ => by simp [thK]) (fun _ _ => rfl) (fun _ _ => rfl) (fun _ _ => rfl)⟩; clear hP hb)
    | (go_at_call 48; (with_reducible refine (mmake_zero 1 (by decide) (by decide) (by decide) (Lib.hid (by decide)) 0 (Lib.hid rfl) _ HV.out.mt).mono ?_); rintro e w3 ⟨rfl, hM, hb⟩; have HV3 : Hid (MV w w3 w1.heap.size P p B G 10 10 (thK 1) (fun _ => 0) (upd (fun _ => 0) 0 (-1)) (upd (fun _ => 0) 0 1)) := Lib.hid ((HV.out.made hM hb).congr (fun i _ => by simp [upd, thK]) (fun _ _ => rfl) (fun _ _ => rfl)); clear hM hb))
  have HP : Hid (P < w3.heap.size ∧ p < w3.heap.size ∧ B < w3.heap.size ∧ G < w3.heap.size ∧ w.heap.size ≤ w3.heap.size) := Lib.hid ⟨HV3.out.mt.pl, HV3.out.mt.ar.pl, HV3.out.mt.ar.lt.2, (HV3.out.mt.row.lt G rfl).2, HV3.out.bel.size⟩
  go_cut [8] (fun v wx => ∃ (u g c' : Nat) (pr tk : Nat → Int), v = .slice (some ⟨g, 0, none⟩) u c' ∧ 1 ≤ u ∧ u ≤ 9 ∧ EV w wx w1.heap.size P p B G w3.heap.size g c' u pr tk)
  case first =>
    have HU1 : Hid (UR (w3.alloc (.cells #[.int .i64 (-1)] 3)) w3.heap.size w3.heap.size 1 1 (upd (fun _ => 0) 0 (-1))) := Lib.hid ⟨rfl, .inr ⟨w3.heap.size, 1, #[.int .i64 (-1)], rfl, Nat.le_refl _, heap_alloc_new _ _, by decide, by decide, by rfl, by rfl⟩⟩
    have HE1 : Hid (EV w (w3.alloc (.cells #[.int .i64 (-1)] 3)) w1.heap.size P p B G w3.heap.size w3.heap.size 1 1 (upd (fun _ => 0) 0 (-1)) (upd (fun _ => 0) 0 1)) := Lib.hid ⟨HV3.out.step ((Below.refl _ _).alloc (Nat.le_refl _) _), fun i hi => by obtain rfl : i = 0 := (by omega); simp [upd], HP.out, HU1.out⟩
    go_wp2_with fail
    go_loopw [9, 8] (fun z v wr => ∃ (k u g c' : Nat) (pr tk : Nat → Int), k ≤ len ∧ u = k + 1 ∧ z = .int .i64 k ∧ v = .slice (some ⟨g, 0, none⟩) u c' ∧ EV w wr w1.heap.size P p B G w3.heap.size g c' u pr tk) (fun z _ _ => len - (intOf z).toNat)
    case atStart => exact ⟨0, 1, _, 1, _, _, by omega, rfl, rfl, rfl, HE1.out⟩
    case round =>
      obtain ⟨k, u, g, c', pr, tk, hk, hu, rfl, rfl, hE⟩ := hrel
      have HE := Lib.hid hE
      have HU := Lib.hid hu
      have hu1 : 1 ≤ u := by omega
      have hu9 : u ≤ 9 := by omega
      clear hE hu
      by_cases hlt : k < len
      · obtain ⟨ad, rfl⟩ : ∃ ad, a = some ad := by
          cases a with
          | none => have := HA0.out rfl; omega
          | some x => exact ⟨x, rfl⟩
        obtain ⟨hb, hc⟩ := HN.out ad rfl (by omega)
        obtain ⟨hc0, hz1, hz2⟩ := hc k hlt
        have hcell := (HE.out.mv.bel.cell (p := ad.add k) (by rw [add_block']; exact hb)).trans hc0
        obtain ⟨r, hr, CK⟩ := number_nat (zs.getD k 0) u u rfl (by omega) (by omega) hz1 hz2
        obtain ⟨z, HZ⟩ : ∃ z, Hid (zs.getD k 0 = z) := ⟨_, Lib.hid rfl⟩
        rw [HZ.out] at hcell CK
        have CK' := Lib.hid CK
        have k0 : (0 : Int) ≤ k := by omega
        have k1 : (k : Int) < len := by omega
        obtain ⟨d, HD⟩ : ∃ d, Hid ((chF pr (r + 1) r).length = d) := ⟨_, Lib.hid rfl⟩
        have HT : Hid (∀ q, q ≤ r → thK u q = true) := Lib.hid (by intro q hq; simp [thK]; omega)
        have HPr : Hid (∀ q, q ≤ r → -1 ≤ pr q ∧ pr q < (q : Int)) := Lib.hid (fun q hq => HE.out.ps q (by omega))
        clear hb hc hc0 hz1 hz2 CK
        by_cases hd : d ≤ 7
        · have HF : Hid (freeB (thK u) (fun _ => 0) u = true) := Lib.hid (by simp [freeB, thK])
          have HNo : Hid (∀ i, i < u → freeB (thK u) (fun _ => 0) i = false) := Lib.hid (by intro i hi; simp [freeB, thK, hi])
          go_wp2_with (first
            | (go_at_call 26; (with_reducible refine (CK'.out _).mono ?_); rintro e w7 ⟨rfl, rfl⟩)
            | (go_at_call 48; (with_reducible refine (mmake_gen r u d HD hd (k : Int) k0 (by omega) (by omega) (by omega) HT HPr HF HNo 0 (Lib.hid rfl) _ HE.out.mv.mt).mono ?_); rintro e w8 ⟨rfl, hM, hb⟩; have HW8 := Lib.hid (HE.out.made r hr (k : Int) hM hb); clear hM hb)
            | (at_builtin; refine wpList_append_own _ rfl _ _ 22 rfl w3.heap.size 3 i0 (.int .i64 0) 1 8 Tryd.underlying22 HI.out.1 HI.out.2.1 HI.out.2.2.1 HI.out.2.2.2 rfl (by decide) _ _ _ rfl (HW8.out.ru.own.alloc _) ⟨w8.heap.size, 0, none⟩ 1 1 [.int .i64 r] rfl rfl (cell_one_new _ _ _) (ints_oneCell .i64 [(r : Int)]) (by unfold maxLen; omega) (by omega) (by have := HW8.out.ru.lo; simp; omega) ?_; intro v' w9 hown' hgrow' _; obtain ⟨g2, c2, rfl, hE9⟩ := HW8.out.more _ v' hown' hgrow'; have HE9 := Lib.hid hE9; clear hown' hgrow' hE9))
          go_roundw
          case rel => exact ⟨k + 1, u + 1, g2, c2, _, _, by omega, by have := HU.out; omega, by go_num, rfl, HE9.out⟩
          case measure => simp [intOf]; omega
        · go_wp2_with (first
            | (go_at_call 26; (with_reducible refine (CK'.out _).mono ?_); rintro e w7 ⟨rfl, rfl⟩)
            | (go_at_call 48; (with_reducible refine (mmake_deep r d HD (by omega) (k : Int) k0 (by omega) (by omega) HT HPr (eV (sA A 3)) _ (Lib.hid (HS.out.below HE.out.mv.bel).c3) (HS.out.below HE.out.mv.bel).s3 HE.out.mv.mt).mono ?_); rintro e w8 ⟨rfl, hb⟩; have HE8 := Lib.hid (HE.out.step hb); clear hb)
            | (go_at_call 16; (with_reducible refine (is_sen A 3 104 (by decide) (Lib.hid (by decide)) _ (HS.out.below HE8.out.mv.bel)).mono ?_); rintro e w9 ⟨rfl, hb⟩; have HE9 := Lib.hid (HE8.out.step hb); clear hb))
          go_meet
          exact ⟨u, g, c', pr, tk, rfl, hu1, hu9, HE9.out⟩
      · go_wp2_with fail
        go_meet
        exact ⟨u, g, c', pr, tk, rfl, hu1, hu9, HE.out⟩
  case rest =>
    obtain ⟨u, g, c', pr, tk, rfl, hu1, hu9, hE⟩ := hcut
    have HE := Lib.hid hE
    obtain ⟨x, hx, CE⟩ := number_nat t u u rfl (by omega) (by omega) G1.out G2.out
    have CE' := Lib.hid CE
    have HU10 : Hid (u ≤ 10) := Lib.hid (by omega)
    have HT : Hid (∀ i, i < u → thK u i = true) := Lib.hid (by intro q hq; simp [thK]; omega)
    have HNo : Hid (∀ i, u ≤ i → i < 10 → thK u i = false) := Lib.hid (by intro q hq _; simp [thK]; omega)
    have HPr := Lib.hid hE.ps
    have HX : Hid (inC pr x u x = true) := Lib.hid (by unfold inC chF; rw [if_neg (by omega)]; simp [hx])
    have HTx : Hid ((fun i => thK u i && !inC pr x u i) x = false) := Lib.hid (by simp [HX.out])
    clear hE CE
    go_wp2_with (first
      | (go_at_call 26; (with_reducible refine (CE'.out _).mono ?_); rintro e w7 ⟨rfl, rfl⟩)
      | (go_at_call 51; (with_reducible refine (mend_ok (n := 10) (th := thK u) (pr := pr) u x HU10 (by decide) hx HT HNo HPr _ HE.out.mv.mt).mono ?_); rintro e w7 ⟨rfl, hM, hb⟩; have HV7 := Lib.hid (HE.out.mv.made hM hb); have HU7 := Lib.hid (HE.out.ru.made hb HE.out.lo.2.2.1 HE.out.lo.2.2.2.1); clear hM hb)
      | (go_at_call 51; (with_reducible refine (mend_no (n := 10) (th := fun i => thK u i && !inC pr x u i) x (by omega) HTx (eV (sA A 4)) _ (HS.out.below HV7.out.bel).c4 HV7.out.mt).mono ?_); rintro e w8 ⟨rfl, rfl⟩))
    have f0 := HV7.out.mt.f0
    go_loop [14] (fun i => ∃ q : Nat, q ≤ u ∧ i = .int .i64 q) (fun i => u - (intOf i).toNat)
    case atStart => exact ⟨0, by omega, rfl⟩
    case round =>
      obtain ⟨q, hq, rfl⟩ := hrel
      by_cases hqu : q < u
      · go_wp2_with fail
        go_loop [15, 16] (fun b y => ∃ (bb : Bool) (y' : Int), b = .bool bb ∧ y = .int .i64 y' ∧ -1 ≤ y' ∧ y' ≤ q ∧ Hid ((bb || decide ((x : Int) ∈ chF pr (q + 1) y')) = inC pr x u q)) (fun _ y => (intOf y + 1).toNat)
        case atStart => exact ⟨false, q, rfl, rfl, by omega, by omega, Lib.hid (by unfold inC; rw [decide_eq_true hqu, Bool.true_and, Bool.false_or])⟩
        case round =>
          obtain ⟨bb, y, rfl, rfl, hy1, hy2, HB⟩ := hrel
          by_cases hy : 0 ≤ y
          · obtain ⟨j, rfl⟩ : ∃ j : Nat, y = j := ⟨y.toNat, by omega⟩
            have cc := HU7.out.at j (by omega)
            obtain ⟨r, HR⟩ : ∃ r, Hid (pr j = r) := ⟨_, Lib.hid rfl⟩
            rw [HR.out] at cc
            have hr := HPr.out j (by omega)
            rw [HR.out] at hr
            obtain ⟨hr0, hr1⟩ := hr
            have k0 : (0 : Int) ≤ j := by omega
            have k1 : (j : Int) < u := by omega
            have HB2 : Hid (((bb || ((j : Int) == (x : Int))) || decide ((x : Int) ∈ chF pr (q + 1) r)) = inC pr x u q) := Lib.hid (by
              rw [← HB.out, ← HR.out]
              have e1 : chF pr (q + 1) (j : Int) = (j : Int) :: chF pr q (pr j) := by simp [chF]
              rw [e1, chF_fuel pr q (fun i hi => HPr.out i (by omega)) q (q + 1) (pr j) (by rw [HR.out]; omega) (by rw [HR.out]; omega) (by rw [HR.out]; omega)]
              rw [Bool.eq_iff_iff]
              simp only [Bool.or_eq_true, decide_eq_true_eq, List.mem_cons, beq_iff_eq]
              constructor
              · rintro ((h | h) | h)
                · exact .inl h
                · exact .inr (.inl h.symm)
                · exact .inr (.inr h)
              · rintro (h | h | h)
                · exact .inl (.inl h)
                · exact .inl (.inr h.symm)
                · exact .inr h)
            clear HB
            cases bb
            · cases hjx : ((j : Int) == (x : Int))
              · have HB3 : Hid ((false || decide ((x : Int) ∈ chF pr (q + 1) r)) = inC pr x u q) := Lib.hid (by rw [← HB2.out, hjx]; rfl)
                go_wp2_with fail
                go_round
                case rel => exact ⟨false, r, rfl, rfl, by omega, by omega, HB3⟩
                case measure => simp [intOf]; omega
              · have HB3 : Hid ((true || decide ((x : Int) ∈ chF pr (q + 1) r)) = inC pr x u q) := Lib.hid (by rw [← HB2.out, hjx]; rfl)
                go_wp2_with fail
                go_round
                case rel => exact ⟨true, r, rfl, rfl, by omega, by omega, HB3⟩
                case measure => simp [intOf]; omega
            · have HB3 : Hid ((true || decide ((x : Int) ∈ chF pr (q + 1) r)) = inC pr x u q) := Lib.hid (by rw [← HB2.out]; simp)
              go_wp2_with fail
              go_round
              case rel => exact ⟨true, r, rfl, rfl, by omega, by omega, HB3⟩
              case measure => simp [intOf]; omega
          · have HC : Hid (inC pr x u q = bb) := Lib.hid (by rw [← HB.out, chF_neg _ _ _ (by omega)]; simp)
            have dy : decide (0 ≤ y) = false := decide_eq_false hy
            clear HB
            cases bb
            · have HL : Hid ((thereB 10 (fun i => thK u i && !inC pr x u i) (q : Int) && ((fun i => if inC pr x u i then (1 : Int) else 0) (q : Int).toNat == 0)) = true) := Lib.hid (by simp [thereB, HC.out, thK]; omega)
              have HH : Hid ((fun i => thK u i && !inC pr x u i) q = true) := Lib.hid (by simp [HC.out, thK, hqu])
              go_wp2_with (first
                | (go_at_call 23; (with_reducible refine (athere_in (n := 10) (th := fun i => thK u i && !inC pr x u i) q (by omega) true HH _ HV7.out.mt.ar).mono ?_); rintro e w8 ⟨rfl, rfl⟩)
                | (go_at_call 25; (with_reducible refine (alive_is (n := 10) (q : Int) 0 true HL _ HV7.out.mt.ar).mono ?_); rintro e w8 ⟨rfl, rfl⟩))
              go_round
              case rel => exact ⟨q + 1, by omega, by go_num⟩
              case measure => simp [intOf]; omega
            · have HL : Hid ((thereB 10 (fun i => thK u i && !inC pr x u i) (q : Int) && ((fun i => if inC pr x u i then (1 : Int) else 0) (q : Int).toNat == 0)) = false) := Lib.hid (by simp [thereB, HC.out])
              have HH : Hid ((fun i => thK u i && !inC pr x u i) q = false) := Lib.hid (by simp [HC.out])
              go_wp2_with (first
                | (go_at_call 23; (with_reducible refine (athere_in (n := 10) (th := fun i => thK u i && !inC pr x u i) q (by omega) false HH _ HV7.out.mt.ar).mono ?_); rintro e w8 ⟨rfl, rfl⟩)
                | (go_at_call 25; (with_reducible refine (alive_is (n := 10) (q : Int) 0 false HL _ HV7.out.mt.ar).mono ?_); rintro e w8 ⟨rfl, rfl⟩))
              go_round
              case rel => exact ⟨q + 1, by omega, by go_num⟩
              case measure => simp [intOf]; omega
      · obtain rfl : q = u := by omega
        have hdd : decide (q < q) = false := by simp
        go_wp2_with fail
        go_ret
        exact ⟨rfl, HV7.out.bel⟩
theorem ends_big (a : Option Addr) (len cap : Nat) (t : Int) (h : 8 < len) (w : World) :
    Calls Tryd.prog 13 #[.slice a len cap, .int .i64 t] w fun e w' => e = .returned (.bool true) ∧ Below w.heap.size w w' := by
  have d1 : decide ((8 : Int) < (len : Int)) = true := by simp; omega
  go_enter Tryd.func13, Tryd.ntmps13
  go_wp2_with (first | (go_at_call 46; refine (mfirst_is _).mono ?_; rintro e w1 ⟨rfl, hb1⟩; have HB1 := Lib.hid hb1; clear hb1))
  go_ret
  exact ⟨rfl, HB1.out⟩
theorem walk_MeterEnds (a0 : Option Addr) (len0 cap0 : Nat) (z0 : List Int) (a1 : Int) (w : World) (w0 : IsRow .i64 w a0 len0 cap0 z0) (w1 : (Lit.int .i64 a1).wf = true) (hL : laidMetH Tryd.prog Rows.meterEndsRow.laid w) :
    Calls Tryd.prog 13 #[.slice a0 len0 cap0, .int .i64 a1] w fun e w' => e = .returned (.bool true) ∧ Below w.heap.size w w' := by
  have hS := (sen_of hL (by intro n hn; simp only [List.mem_cons, List.not_mem_nil, or_false] at hn; rcases hn with rfl | rfl | rfl | rfl | rfl | rfl | rfl | rfl | rfl | rfl | rfl | rfl <;> exact ⟨_, by repeat (first | exact List.Mem.head _ | apply List.Mem.tail)⟩))
  clear hL
  by_cases hl : 8 < len0
  · exact ends_big a0 len0 cap0 a1 hl w
  · refine ends_small a0 len0 cap0 z0 a1 (i64_fit w1).1 (i64_fit w1).2 (by omega) w ?_ ?_ _ hS
    · intro e
      rcases w0 with ⟨-, h, -, -⟩ | ⟨x, h, -⟩
      · exact h
      · rw [e] at h; exact absurd h (by simp)
    · intro ad had h0
      rcases w0 with ⟨h, -, -, -⟩ | ⟨x, h, h1, h2, h3, h4, h5⟩
      · rw [had] at h; exact absurd h (by simp)
      · obtain rfl : x = ad := by rw [h] at had; exact Option.some.inj had
        refine ⟨?_, fun i hi => ?_⟩
        · have hc := h4 0 (by omega)
          rcases Nat.lt_or_ge x.block w.heap.size with h' | h'
          · exact h'
          · have : (x.add 0).block = x.block := add_block' x 0
            simp [World.cell?, this, Array.getElem?_eq_none h'] at hc
        · have hz : z0.getD i 0 ∈ z0 := by
            rw [show z0.getD i 0 = z0[i]'(by omega) by simp [List.getD, show i < z0.length by omega]]
            exact List.getElem_mem _
          exact ⟨h4 i (by omega), (i64_fit (h5 _ hz)).1, (i64_fit (h5 _ hz)).2⟩
end Go.Proofs.YtlefmgdfcpnifaaDoor
