/-
  HoleSays: other, light; two rows of the same keys.
-/
import Derived.Test.YtahhnfhnlffmpaaHu
namespace Go.Proofs.Ytahhnfhnlffmpaa
open Go.ChangeShapes Go.WideShapes Go.ChangeAt Go.RowKit Go.Maps
set_option linter.unusedVariables false
theorem hinfoF8 : (Try.prog.info? 46).map (fun i => (i.zero, i.size, i.bytes)) = some (some (.agg #[.int .i64 0, .int .i64 0, .bool false, .slice none 0 0]), 4, 48) := by kernel_rfl
/-- The document's factories, as they were made out of the program's. -/
theorem fac_other {w w' : World} {a : Option Addr} {D : FD} {v : Value} {B : Nat} (h : FacAt w a D) (hb : Below w.heap.size w w') (hr : w'.ownsRow B 46 4 v D.n (facRow D D.n)) : ∃ a' c', v = .slice a' D.n c' ∧ FacAt w' a' D := by
  obtain ⟨a', c', hv⟩ := own_shape hr
  refine ⟨a', c', hv, ⟨fun i hi => ?_, fun i hi => (h.part i hi).below hb, h.few, h.few2⟩⟩
  obtain ⟨ad, _, _, _, h4⟩ := h.row i hi
  rcases hr.2 with ⟨e, e2⟩ | ⟨g, cap, cur, e, hB, hg, rest⟩
  · omega
  · rw [hv] at e
    simp only [Value.slice.injEq] at e
    obtain ⟨rfl, _, rfl⟩ := e
    rw [hv] at hr
    have hl : g < w'.heap.size := (hr.lt g rfl).2
    have cell : ∀ q, q < 4 → w'.cell? ⟨g, 0 + i * 4 + q, none⟩ = some (facCell D i q) := fun q hq => by
      rw [show 0 + i * 4 + q = i * 4 + q by omega, hr.cellAt (i * 4 + q) (by omega), facRow_at D D.n i q hi hq]
    refine ⟨⟨g, 0, none⟩, rfl, ?_, ?_, h4⟩
    · rw [Addr.add_lit]; exact hl
    · rw [Addr.add_lit]
      exact ⟨by have := cell 0 (by decide); simpa [facCell] using this, by simpa [facCell] using cell 1 (by decide), by simpa [facCell] using cell 2 (by decide), by simpa [facCell] using cell 3 (by decide)⟩
section
variable {P : Program}
/-- append at a step of a region that draws: onto a row of the call's own. -/
theorem step_append_own {ops : Array Oper} {o : Oper} {a : Act} {K : Act → World → Prop} {Q : Exit → Act → World → Prop} {E : Prop} (w : World) (hgd : o.guard = none) (s x : Operand) (t : TypeId)
    (ho : o.op = .call { callee := .builtin .append, args := #[s, x], argTypes := #[t, t] })
    (base : Nat) (e : TypeId) (i : TypeInfo) (z : Value) (size bytes : Nat) (ht : P.underlying t = some (.slice e)) (hi : P.info? e = some i) (hz : i.zero = some z)
    (hsize : i.size = size) (hby : i.bytes = bytes) (hzs : z.cells.size = size) (hsz : 0 < size)
    (v : Value) (n : Nat) (xs : List Value) (hs : a.eval s = v) (hown : w.ownsRow base e size v n xs)
    (ad : Addr) (m c : Nat) (news : List Value) (hx : a.eval x = .slice (some ad) m c) (hl : news.length = m * size) (hnews : ∀ j u, news[j]? = some u → w.cell? (ad.add j) = some u) (h1 : ∀ u ∈ news, u.oneCell' = true)
    (h63 : n + m ≤ maxLen) (hbytes : (n + m) * bytes ≤ 140737488355328) (hbase : base ≤ w.heap.size)
    (h : ∀ v' w', w'.ownsRow base e size v' (n + m) (xs ++ news) → w.grownBy w' v.ownBlock → K (a.put o.dst v') w') :
    if Region.wanted o (yielded ops a.tmps) = true then Oper.wp P o a w K Q else E := by
  have hw : Region.wanted o (yielded ops a.tmps) = true := by simp [Region.wanted, hgd]
  rw [if_pos hw]
  obtain ⟨v', w', hr, h2, h3, h4, h5⟩ := run_append_own_at (P := P) w base t o.type e i z size bytes ht hi hz hsize hby hzs hsz v n xs hown ad m c news hl hnews h1 h63 hbytes hbase
  unfold Oper.wp execOp
  simp only [ho, resolve, invoke, builtin, Sem.run_bind, Sem.run_pure, Result.andThen_ok, List.map_toArray, List.map_cons, List.map_nil, hs, hx, hr]
  exact h v' w' h2 h3
end
theorem InR.at_ {w : World} {e : Addr} {x y : Int} {b : Bool} {v : Value} (h : InR w e x y b v) : w.cell? e = some (.int .i64 x) ∧ w.cell? ⟨e.block, e.off + 1, none⟩ = some (.int .i64 y) ∧ w.cell? ⟨e.block, e.off + 2, none⟩ = some (.bool b) ∧ w.cell? ⟨e.block, e.off + 3, none⟩ = some v := h
theorem SF_bel {a b : World} {R : Prop} {n : Nat} (h : Below n a b ∧ R) : Below n a b := h.1
theorem bel_al' {W X : World} (h : Below W.heap.size W X) (o : Obj) : Below W.heap.size W (X.alloc o) := h.alloc h.size o
set_option maxRecDepth 100000 in
set_option maxHeartbeats 4000000 in
theorem other_is (a : Option Addr) (D : FD) (n cap : Nat) (hn : Hid (n = D.n)) (w : World) (hF : FacAt w a D) :
    Calls Try.prog 9 #[.slice a n cap] w fun e w' => ∃ a' c', e = .returned (.slice a' n c') ∧ FacAt w' a' D ∧ Below w.heap.size w w' := by
  have e := hn.out
  subst e
  have HF := Lib.hid hF
  have few := hF.few
  obtain ⟨jf, hi1, hi2, hi3, hi4⟩ := info_parts hinfoF8
  have HIF := Lib.hid (⟨hi1, hi2, hi3, hi4⟩ : Try.prog.info? 46 = some jf ∧ jf.zero = some (.agg #[.int .i64 0, .int .i64 0, .bool false, .slice none 0 0]) ∧ jf.size = 4 ∧ jf.bytes = 48)
  clear hi1 hi2 hi3 hi4 hF
  go_enter Try.func9, Try.ntmps9
  go_wp2_with fail
  go_loopw [4, 3] (fun z v wr => ∃ q : Nat, q ≤ D.n ∧ z = .int .i64 q ∧ wr.ownsRow w.heap.size 46 4 v q (facRow D q) ∧ Below w.heap.size w wr) (fun z _ _ => D.n - (intOf z).toNat)
  case atStart => exact ⟨0, by omega, rfl, World.ownsRow_nil _ _ _ _, Below.refl _ _⟩
  case round =>
    obtain ⟨q, hq, rfl, hrow, hb⟩ := hrel
    have HRow := Lib.hid hrow
    have HB := Lib.hid hb
    clear hrow hb
    by_cases hlt : q < D.n
    · obtain ⟨ad, rfl, hbl, hin, hw1, hw2⟩ := HF.out.row q hlt
      obtain ⟨i0, i1, i2, i3⟩ := hin.below HB.out hbl
      have q0 : (0 : Int) ≤ q := by omega
      have q1 : (q : Int) < D.n := by omega
      have H6 : Hid (q + 1 ≤ maxLen ∧ (q + 1) * 48 ≤ 140737488355328 ∧ w.heap.size ≤ wr.heap.size) := Lib.hid ⟨by unfold maxLen; omega, by omega, HB.out.size⟩
      obtain ⟨xi, Hxi⟩ : ∃ x, D.id q = x := ⟨_, rfl⟩
      obtain ⟨xv, Hxv⟩ : ∃ x, D.ver q = x := ⟨_, rfl⟩
      obtain ⟨xs, Hxs⟩ : ∃ x, D.sl q = x := ⟨_, rfl⟩
      obtain ⟨xp, Hxp⟩ : ∃ x, D.pa q = x := ⟨_, rfl⟩
      obtain ⟨xc, Hxc⟩ : ∃ x, D.ct q = x := ⟨_, rfl⟩
      obtain ⟨xd, Hxd⟩ : ∃ x, D.cp q = x := ⟨_, rfl⟩
      rw [Hxi] at i0
      rw [Hxv] at i1
      rw [Hxs] at i2
      rw [Hxp, Hxc, Hxd] at i3
      have HS : Hid (facRow D (q + 1) = facRow D q ++ [.int .i64 xi, .int .i64 xv, .bool xs, .slice xp xc xd]) := Lib.hid (by rw [facRow_snoc, Hxi, Hxv, Hxs, Hxp, Hxc, Hxd])
      have HST : Hid (∀ X, Below w.heap.size w X → Below w.heap.size w X ∧ X.cell? (ad.add (q * 4)) = some (.int .i64 xi) ∧ X.cell? ⟨(ad.add (q * 4)).block, (ad.add (q * 4)).off + 1, none⟩ = some (.int .i64 xv) ∧ X.cell? ⟨(ad.add (q * 4)).block, (ad.add (q * 4)).off + 2, none⟩ = some (.bool xs) ∧ X.cell? ⟨(ad.add (q * 4)).block, (ad.add (q * 4)).off + 3, none⟩ = some (.slice xp xc xd)) := Lib.hid (fun X hX => by
        have h := (hin.below hX hbl).at_
        rw [Hxi, Hxv, Hxs, Hxp, Hxc, Hxd] at h
        exact ⟨hX, h⟩)
      have HRd : Hid (wr.drew.ownsRow w.heap.size 46 4 u3 q (facRow D q)) := Lib.hid (rowbelow HRow.out (Below.refl _ _).drew)
      clear hin hw1 hw2 Hxi Hxv Hxs Hxp Hxc Hxd i0 i1 i2 i3
      go_wp2_with fail
      go_region_held3 (fun w' => Below w.heap.size w w' ∧ w'.cell? (ad.add (q * 4)) = some (.int .i64 xi) ∧ w'.cell? ⟨(ad.add (q * 4)).block, (ad.add (q * 4)).off + 1, none⟩ = some (.int .i64 xv) ∧ w'.cell? ⟨(ad.add (q * 4)).block, (ad.add (q * 4)).off + 2, none⟩ = some (.bool xs) ∧ w'.cell? ⟨(ad.add (q * 4)).block, (ad.add (q * 4)).off + 3, none⟩ = some (.slice xp xc xd)) (first | exact HST.out _ HB.out.drew | exact HST.out _ hb9 | exact HST.out _ (bel_al' (SF_bel (by assumption)) _))
        (first
          | ((refine step_append_own _ (by rfl) _ _ 32 (by rfl) w.heap.size 46 jf (.agg #[.int .i64 0, .int .i64 0, .bool false, .slice none 0 0]) 4 48 Try.underlying32 HIF.out.1 HIF.out.2.1 HIF.out.2.2.1 HIF.out.2.2.2 (by rfl) (by decide) u3 q (facRow D q) (by rfl) (HRd.out.alloc _) ⟨wr.heap.size, 0, none⟩ 1 1 [.int .i64 xi, .int .i64 xv, .bool xs, .slice xp xc xd] (by rfl) (by rfl) (four_at rfl _ _ _ (by rfl)) (four_one _ _ _ _ _ _) H6.out.1 H6.out.2.1 (by have := H6.out.2.2; simp; omega) ?_; intro v' w9 hown hgrow; have hb9 : Below w.heap.size w w9 := (bel_al' HB.out.drew _).grown hgrow (by have := H6.out.2.2; simp; omega) (fun g hg => (HRow.out.lt g hg).1); have HOW := Lib.hid hown; clear hown hgrow)))
      rw [← HS.out] at HOW
      have HB9 := Lib.hid hb9
      clear hb9
      go_wp2_with fail
      go_roundw
      case rel => exact ⟨q + 1, by omega, by go_num, HOW.out, HB9.out⟩
      case measure => simp [intOf]; omega
    · obtain rfl : q = D.n := by omega
      have hqq : decide (D.n < D.n) = false := by simp
      obtain ⟨a', c', rfl, hfa⟩ := fac_other HF.out HB.out HRow.out
      have HFA := Lib.hid hfa
      clear hfa
      go_wp2_with fail
      go_ret
      exact ⟨_, _, rfl, HFA.out, HB.out⟩
set_option maxRecDepth 100000 in
set_option maxHeartbeats 4000000 in
theorem light_is (a : Option Addr) (D : FD) (n cap : Nat) (hn : Hid (n = D.n)) (b : Bool) (hb : Hid (b = true ↔ LightP D)) (w : World) (hF : FacR w a D) :
    Calls Try.prog 7 #[.slice a n cap] w fun e w' => e = .returned (.bool b) ∧ Below w.heap.size w w' := by
  have e := hn.out
  subst e
  have HF := Lib.hid hF
  have hmx := hF.mx
  unfold maxLen at hmx
  have no : ¬ LightP D → b = false := fun h => by cases h2 : b with | false => rfl | true => exact absurd (hb.out.1 h2) h
  have NO := Lib.hid no
  clear hF no
  go_enter Try.func7, Try.ntmps7
  go_wp2_with fail
  go_loopw [3] (fun z wr => ∃ q : Nat, q ≤ D.n ∧ z = .int .i64 q ∧ (∀ i, i < q → D.ct i ≤ 8 ∧ ∀ j, j < D.ct i → codeOf (D.key i j 0) (D.key i j 1) (D.key i j 2) (D.key i j 3) (D.key i j 4) = 0) ∧ Below w.heap.size w wr) (fun z _ => D.n - (intOf z).toNat)
  case atStart => exact ⟨0, by omega, rfl, fun i hi => by omega, Below.refl _ _⟩
  case round =>
    obtain ⟨q, hq, rfl, hall, hb1⟩ := hrel
    have HAll := Lib.hid hall
    have HB := Lib.hid hb1
    clear hall hb1
    by_cases hlt : q < D.n
    · obtain ⟨ad, rfl, hbl, hin, hw1, hw2⟩ := HF.out.row q hlt
      have HIn := Lib.hid hin
      have HBl := Lib.hid hbl
      obtain ⟨i0, i1, i2, i3⟩ := hin.below HB.out hbl
      have q0 : (0 : Int) ≤ q := by omega
      have q1 : (q : Int) < D.n := by omega
      have HPt := Lib.hid (HF.out.part q hlt)
      have hcm := HPt.out.mx
      unfold maxLen at hcm
      obtain ⟨xp, Hxp⟩ : ∃ x, Hid (D.pa q = x) := ⟨_, Lib.hid rfl⟩
      obtain ⟨xc, Hxc⟩ : ∃ x, Hid (D.ct q = x) := ⟨_, Lib.hid rfl⟩
      obtain ⟨xd, Hxd⟩ : ∃ x, Hid (D.cp q = x) := ⟨_, Lib.hid rfl⟩
      rw [Hxp.out, Hxc.out, Hxd.out] at i3 HPt HIn
      rw [Hxc.out] at hcm
      clear hin hw1 hw2 hbl i0 i1 i2
      by_cases h8 : 8 < xc
      · have d8 : decide ((8 : Int) < (xc : Int)) = true := by simp; omega
        have e := NO.out (fun h => by have := (h.2 q hlt).1; rw [Hxc.out] at this; omega)
        subst e
        go_wp2_with fail
        go_ret
        exact ⟨rfl, HB.out⟩
      · have d8 : decide ((8 : Int) < (xc : Int)) = false := by simp; omega
        go_wp2_with fail
        clear i3
        go_loopw [4] (fun z wr => ∃ p : Nat, p ≤ xc ∧ z = .int .i64 p ∧ (∀ j, j < p → codeOf (D.key q j 0) (D.key q j 1) (D.key q j 2) (D.key q j 3) (D.key q j 4) = 0) ∧ Below w.heap.size w wr) (fun z _ => xc - (intOf z).toNat)
        case atStart => exact ⟨0, by omega, rfl, fun i hi => by omega, HB.out⟩
        case round =>
          obtain ⟨p, hp, rfl, hal2, hb2⟩ := hrel
          have HAl2 := Lib.hid hal2
          have HB2 := Lib.hid hb2
          clear hal2 hb2
          obtain ⟨i0, i1, i2, i3⟩ := HIn.out.below HB2.out HBl.out
          clear i0 i1 i2
          by_cases hlp : p < xc
          · have p0 : (0 : Int) ≤ p := by omega
            have p1 : (p : Int) < xc := by omega
            obtain ⟨pd, rfl, hkb, hki, _⟩ := HPt.out.at_ p hlp
            have gk := HPt.out.gk p hlp
            obtain ⟨j0, j1, j2, j3, j4⟩ := hki.below HB2.out hkb
            obtain ⟨cc, Hcc⟩ : ∃ cc, Hid (codeOf (D.key q p 0) (D.key q p 1) (D.key q p 2) (D.key q p 3) (D.key q p 4) = cc) := ⟨_, Lib.hid rfl⟩
            have HNot : Hid (¬ cc = 0 → b = false) := Lib.hid (fun h => NO.out (fun hl => h (by rw [← Hcc.out]; exact (hl.2 q hlt).2 p (by rw [Hxc.out]; exact hlp))))
            have HNx : Hid (cc = 0 → ∀ j, j < p + 1 → codeOf (D.key q j 0) (D.key q j 1) (D.key q j 2) (D.key q j 3) (D.key q j 4) = 0) := Lib.hid (fun h j hj => by
              by_cases e : j = p
              · subst e; rw [Hcc.out, h]
              · exact HAl2.out j (by omega))
            generalize D.key q p 0 = k0 at j0 Hcc
            generalize D.key q p 1 = k1 at j1 Hcc
            generalize D.key q p 2 = k2 at j2 Hcc
            generalize D.key q p 3 = k3 at j3 Hcc
            generalize D.key q p 4 = k4 at j4 Hcc gk
            clear hki hkb
            by_cases hc0 : cc = 0
            · have HNy := Lib.hid (HNx.out hc0)
              subst hc0
              go_wp2_with (first
                | (go_at_call 8; (with_reducible refine (valid_is k0 k1 k2 k3 k4 0 Hcc gk _).mono ?_); rintro e w4 ⟨rfl, hb⟩; have HB4 := Lib.hid hb; clear hb))
              go_roundw
              case rel => exact ⟨p + 1, by omega, by go_num, HNy.out, HB2.out.trans (HB4.out.mono HB2.out.size)⟩
              case measure => simp [intOf]; omega
            · have ec : (cc == 0) = false := by simpa using hc0
              have e := HNot.out hc0
              subst e
              clear hc0
              go_wp2_with (first
                | (go_at_call 8; (with_reducible refine (valid_is k0 k1 k2 k3 k4 cc Hcc gk _).mono ?_); rintro e w4 ⟨rfl, hb⟩; have HB4 := Lib.hid hb; clear hb))
              go_ret
              exact ⟨rfl, HB2.out.trans (HB4.out.mono HB2.out.size)⟩
          · obtain rfl : p = xc := by omega
            have hpp : decide (p < p) = false := by simp
            have HNx : Hid (∀ i, i < q + 1 → D.ct i ≤ 8 ∧ ∀ j, j < D.ct i → codeOf (D.key i j 0) (D.key i j 1) (D.key i j 2) (D.key i j 3) (D.key i j 4) = 0) := Lib.hid (fun i hi => by
              by_cases e : i = q
              · subst e; rw [Hxc.out]; exact ⟨by omega, HAl2.out⟩
              · exact HAll.out i (by omega))
            go_wp2_with fail
            go_roundw
            case rel => exact ⟨q + 1, by omega, by go_num, HNx.out, HB2.out⟩
            case measure => simp [intOf]; omega
    · obtain rfl : q = D.n := by omega
      have hqq : decide (D.n < D.n) = false := by simp
      by_cases h20 : D.n ≤ 20
      · have d20 : decide ((D.n : Int) ≤ 20) = true := by simp; omega
        have e : b = true := hb.out.2 ⟨h20, HAll.out⟩
        subst e
        go_wp2_with fail
        go_ret
        exact ⟨rfl, HB.out⟩
      · have d20 : decide ((D.n : Int) ≤ 20) = false := by simp; omega
        have e := NO.out (fun h => h20 h.1)
        subst e
        go_wp2_with fail
        go_ret
        exact ⟨rfl, HB.out⟩
theorem keyRow_get (key : Nat → Nat → Int) : ∀ (l : List Nat) (q j : Nat), l[q]? = some j → ∀ r v, (kcells key j)[r]? = some v → (keyRow key l)[q * 5 + r]? = some v
  | [], q, j, h, r, v, hv => by simp at h
  | x :: l, q, j, h, r, v, hv => by
    have hr : r < 5 := by have := (List.getElem?_eq_some_iff.1 hv).1; simpa [kcells] using this
    have hl : (kcells key x).length = 5 := by simp [kcells]
    show (kcells key x ++ keyRow key l)[q * 5 + r]? = some v
    match q, h with
    | 0, h =>
      simp at h
      subst h
      rw [List.getElem?_append_left (by omega), Nat.zero_mul, Nat.zero_add]
      exact hv
    | q + 1, h =>
      rw [List.getElem?_append_right (by omega), hl, show (q + 1) * 5 + r - 5 = q * 5 + r by omega]
      exact keyRow_get key l q j (by simpa using h) r v hv
theorem krow_cells {w : World} {base : Nat} {u : Option Addr} {n c : Nat} {l : List Nat} {key : Nat → Nat → Int} (h : KRow w base (.slice u n c) l key) (q : Nat) (hq : q < l.length) : ∃ g, u = some ⟨g, 0, none⟩ ∧ g < w.heap.size ∧ InF w ⟨g, q * 5, none⟩ (key (l.getD q 0) 0) (key (l.getD q 0) 1) (key (l.getD q 0) 2) (key (l.getD q 0) 3) (key (l.getD q 0) 4) := by
  have h' : w.ownsRow base 24 5 (.slice u n c) l.length (keyRow key l) := h
  rcases h'.2 with ⟨e, e2⟩ | ⟨g, cap, cur, e, hB, hg, rest⟩
  · omega
  · simp only [Value.slice.injEq] at e
    obtain ⟨rfl, hnn, rfl⟩ := e
    subst hnn
    have hl := (h'.lt g rfl).2
    have hj : l[q]? = some (l.getD q 0) := by rw [List.getElem?_eq_getElem hq]; simp [List.getD, hq]
    have cell : ∀ r v, (kcells key (l.getD q 0))[r]? = some v → w.cell? ⟨g, q * 5 + r, none⟩ = some v := fun r v hv => by
      have hr : r < 5 := by have := (List.getElem?_eq_some_iff.1 hv).1; simpa [kcells] using this
      rw [h'.cellAt (q * 5 + r) (by omega), keyRow_get key l q _ hj r v hv]
    exact ⟨g, rfl, hl, by have := cell 0 _ rfl; simpa using this, cell 1 _ rfl, cell 2 _ rfl, cell 3 _ rfl, cell 4 _ rfl⟩
end Go.Proofs.Ytahhnfhnlffmpaa
