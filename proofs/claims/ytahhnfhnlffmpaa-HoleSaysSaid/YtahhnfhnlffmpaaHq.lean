/-
  HoleSays: the reference's find, Hole.
-/
import Derived.Test.YtahhnfhnlffmpaaHp
import Derived.Test.YtahhnfhnlffmpaaHh
import Derived.Laws.AppendOwnNone
import Derived.BigQuiet
namespace Go.Proofs.Ytahhnfhnlffmpaa
open Go.ChangeShapes Go.WideShapes Go.ChangeAt Go.RowKit Go.Maps
set_option linter.unusedVariables false
theorem below_qN {n : Nat} {a b : World} (h : Below n a b) (k : Nat) : Below n a (b.drewN k) := ⟨h.os, h.tape, h.output, h.size, h.block⟩
def fndI (D : FD) (k1 k2 : Int) : Int := match D.fnd k1 k2 with | some i => (i : Int) | none => -1
set_option maxRecDepth 100000 in
set_option maxHeartbeats 4000000 in
theorem rfind_is (k0 k1 k2 k3 k4 : Int) (a : Option Addr) (D : FD) (n cap : Nat) (hn : Hid (n = D.n)) (w : World) (hF : FacAt w a D) :
    Calls Try.prog 22 #[(Value.agg #[.int .i64 k0, .int .i64 k1, .int .i64 k2, .int .i64 k3, .int .u32 k4]), .slice a n cap] w fun e w' => e = .returned (.int .i64 (fndI D k1 k2)) ∧ Below w.heap.size w w' := by
  have e := hn.out
  subst e
  have HF : Hid (∀ o, FacAt (w.alloc o) a D) := Lib.hid fun o => hF.below ((Below.refl _ _).alloc (Nat.le_refl _) _)
  have few := hF.few
  clear hF
  go_enter Try.func22, Try.ntmps22
  obtain ⟨w1, hw1⟩ : ∃ w1, w1 = w.alloc (.cells #[.int .i64 k0, .int .i64 k1, .int .i64 k2, .int .i64 k3, .int .u32 k4] 24) := ⟨_, rfl⟩
  have H1 : Hid (FacAt w1 a D ∧ Below w.heap.size w w1 ∧ w.heap.size < w1.heap.size ∧ InF w1 ⟨w.heap.size, 0, none⟩ k0 k1 k2 k3 k4) := Lib.hid (by
    rw [hw1]
    exact ⟨HF.out _, (Below.refl _ _).alloc (Nat.le_refl _) _, by simp, by simp [InF]⟩)
  go_upto_region 1 with fail
  rw [← hw1]
  clear hw1 HF
  go_wp2_with fail
  go_loopw [5] (fun z wr => ∃ q : Nat, q ≤ D.n ∧ z = .int .i64 q ∧ D.fidx k1 k2 q = none ∧ Below w1.heap.size w1 wr) (fun z _ => D.n - (intOf z).toNat)
  case atStart => exact ⟨0, by omega, rfl, rfl, Below.refl _ _⟩
  case round =>
    obtain ⟨q, hq, rfl, hfx, hb⟩ := hrel
    have HB := Lib.hid hb
    have HFx := Lib.hid hfx
    clear hb hfx
    by_cases hlt : q < D.n
    · obtain ⟨ad, rfl, hbl, hrow, hw1, hw2⟩ := H1.out.1.row q hlt
      obtain ⟨i0, i1, i2, i3⟩ := hrow.below HB.out hbl
      obtain ⟨x0, x1, x2, x3, x4⟩ := H1.out.2.2.2.below HB.out H1.out.2.2.1
      have q0 : (0 : Int) ≤ q := by omega
      have q1 : (q : Int) < D.n := by omega
      have HB0 : Hid (Below w.heap.size w wr) := Lib.hid (H1.out.2.1.trans (HB.out.mono H1.out.2.1.size))
      clear hrow hw1 hw2 hbl
      by_cases e1 : D.id q = k1
      · by_cases e2 : D.ver q = k2
        · have hx : D.fidx k1 k2 D.n = some q := by
            have up : ∀ m, q < m → D.fidx k1 k2 m = some q := by
              intro m
              induction m with
              | zero => intro h; omega
              | succ m ih =>
                intro h
                unfold FD.fidx
                by_cases e : q < m
                · rw [ih e]
                · obtain rfl : q = m := by omega
                  rw [HFx.out]
                  simp [e1, e2]
            exact up _ hlt
          have HX := Lib.hid hx
          have b1 : (D.id q == k1) = true := by simpa using e1
          have b2 : (D.ver q == k2) = true := by simpa using e2
          generalize D.id q = xi at i0 b1
          generalize D.ver q = xv at i1 b2
          clear e1 e2 hx
          cases hs : D.sl q with
          | true =>
            have HS := Lib.hid hs
            rw [hs] at i2
            clear hs
            go_wp2_with fail
            go_quiet (fail)
            go_wp2_with fail
            go_ret
            exact ⟨by simp [fndI, FD.fnd, HX.out, HS.out], below_qN HB0.out _⟩
          | false =>
            have HS := Lib.hid hs
            rw [hs] at i2
            clear hs
            go_wp2_with fail
            go_quiet (fail)
            go_wp2_with fail
            go_ret
            exact ⟨by simp [fndI, FD.fnd, HX.out, HS.out], below_qN HB0.out _⟩
        · have b1 : (D.id q == k1) = true := by simpa using e1
          have b2 : (D.ver q == k2) = false := by simpa using e2
          have HN : Hid (D.fidx k1 k2 (q + 1) = none) := Lib.hid (by unfold FD.fidx; rw [HFx.out]; simp [e2])
          generalize D.id q = xi at i0 b1
          generalize D.ver q = xv at i1 b2
          clear e1 e2
          go_wp2_with fail
          go_quiet (fail)
          go_wp2_with fail
          go_roundw
          case rel => exact ⟨q + 1, by omega, by go_num, HN.out, below_qN HB.out _⟩
          case measure => simp [intOf]; omega
      · have b1 : (D.id q == k1) = false := by simpa using e1
        have HN : Hid (D.fidx k1 k2 (q + 1) = none) := Lib.hid (by unfold FD.fidx; rw [HFx.out]; simp [e1])
        generalize D.id q = xi at i0 b1
        clear e1
        go_wp2_with fail
        go_quiet (fail)
        go_wp2_with fail
        go_roundw
        case rel => exact ⟨q + 1, by omega, by go_num, HN.out, below_qN HB.out _⟩
        case measure => simp [intOf]; omega
    · obtain rfl : q = D.n := by omega
      have hqq : decide (D.n < D.n) = false := by simp
      go_wp2_with fail
      go_ret
      exact ⟨by simp [fndI, FD.fnd, HFx.out], H1.out.2.1.trans (HB.out.mono H1.out.2.1.size)⟩
theorem kys_news {w : World} {pd : Addr} {n : Nat} {key : Nat → Nat → Int} (h : KysAt w (some pd) n key) : ∀ j u, (keyRow key (List.range n))[j]? = some u → w.cell? (pd.add j) = some u := by
  intro j u hj
  have hlen : ∀ m, (keyRow key (List.range m)).length = m * 5 := by
    intro m
    induction m with
    | zero => rfl
    | succ m ih => rw [List.range_succ, keyRow_snoc, List.length_append, ih]; simp [kcells]; omega
  have hl := (List.getElem?_eq_some_iff.1 hj).1
  rw [hlen] at hl
  have e : j = j / 5 * 5 + j % 5 := by omega
  obtain ⟨pd', hp, hbl, hin, _⟩ := h (j / 5) (by omega)
  injection hp with hp
  subst hp
  obtain ⟨v, hv⟩ : ∃ v, (kcells key (j / 5))[j % 5]? = some v := by
    have : j % 5 < (kcells key (j / 5)).length := by simp [kcells]; omega
    exact ⟨_, List.getElem?_eq_getElem this⟩
  have h1 := keyRow_at key n (j / 5) (by omega) (j % 5) v hv
  rw [← e, hj] at h1
  injection h1 with h1
  subst h1
  obtain ⟨c0, c1, c2, c3, c4⟩ := hin
  rw [e, ← Go.Deep.add_add]
  have hr : j % 5 = 0 ∨ j % 5 = 1 ∨ j % 5 = 2 ∨ j % 5 = 3 ∨ j % 5 = 4 := by omega
  rcases hr with hr | hr | hr | hr | hr <;> rw [hr] at hv ⊢ <;> simp [kcells] at hv <;> subst hv
  · simpa [Addr.add] using c0
  · simpa [Addr.add] using c1
  · simpa [Addr.add] using c2
  · simpa [Addr.add] using c3
  · simpa [Addr.add] using c4
theorem keyRow_len (key : Nat → Nat → Int) (n : Nat) : (keyRow key (List.range n)).length = n * 5 := by
  induction n with
  | zero => rfl
  | succ m ih => rw [List.range_succ, keyRow_snoc, List.length_append, ih]; simp [kcells]; omega
theorem keyRow_one (key : Nat → Nat → Int) (l : List Nat) : ∀ u ∈ keyRow key l, u.oneCell' = true := by
  intro u hu
  unfold keyRow at hu
  obtain ⟨j, _, hj⟩ := List.mem_flatMap.1 hu
  simp [kcells] at hj
  rcases hj with rfl | rfl | rfl | rfl | rfl <;> rfl
theorem row_cells {w : World} {base g tn c : Nat} {tk : Nat → Nat → Int} (h : w.ownsRow base 24 5 (.slice (some ⟨g, 0, none⟩) tn c) tn (keyRow tk (List.range tn))) (m : Nat) (hm : m < tn) : InF w ⟨g, m * 5, none⟩ (tk m 0) (tk m 1) (tk m 2) (tk m 3) (tk m 4) := by
  have cell : ∀ q v, (kcells tk m)[q]? = some v → w.cell? ⟨g, m * 5 + q, none⟩ = some v := fun q v hv => by
    have hq : q < 5 := by have := (List.getElem?_eq_some_iff.1 hv).1; simpa [kcells] using this
    rw [h.cellAt (m * 5 + q) (by omega), keyRow_at tk tn m hm q v hv]
  exact ⟨by have := cell 0 _ rfl; simpa using this, cell 1 _ rfl, cell 2 _ rfl, cell 3 _ rfl, cell 4 _ rfl⟩
/-- What is to do, and what was seen, as they lie. -/
structure TdAt (w wr : World) (bs n : Nat) (v : Value) (tn : Nat) (tk : Nat → Nat → Int) (seen : Nat → Bool) : Prop where
  row : wr.ownsRow w.heap.size 24 5 v tn (keyRow tk (List.range tn))
  ou : OutAt wr bs n seen
  ap : ∀ g, v.ownBlock = some g → g ≠ bs
  lo : w.heap.size ≤ bs
  bel : Below w.heap.size w wr
section
variable {w wr w' : World} {bs n tn : Nat} {v v' : Value} {tk tk' : Nat → Nat → Int} {seen : Nat → Bool}
theorem TdAt.step (h : TdAt w wr bs n v tn tk seen) (hb : Below wr.heap.size wr w') : TdAt w w' bs n v tn tk seen :=
  ⟨rowbelow h.row hb, rowbelow h.ou hb, h.ap, h.lo, h.bel.trans (hb.mono h.bel.size)⟩
theorem TdAt.put (h : TdAt w wr bs n v tn tk seen) (i : Nat) (hi : i < n) : TdAt w (wr.setCell ⟨bs, i, none⟩ (.bool true)) bs n v tn tk (updB seen i true) := by
  have hs := h.ou.set i hi true
  refine ⟨h.row.kept hs.2 ?_, hs.1, h.ap, h.lo, h.bel.grown hs.2 h.bel.size (fun g hg => by injection hg with hg; have := h.lo; omega)⟩
  cases hv : v.ownBlock with
  | none => exact .inl rfl
  | some g => exact .inr fun e => h.ap g hv (by injection e)
theorem TdAt.app {tn' : Nat} (h : TdAt w wr bs n v tn tk seen) (hrow : w'.ownsRow w.heap.size 24 5 v' tn' (keyRow tk' (List.range tn'))) (hg : wr.grownBy w' v.ownBlock) (hloc : v'.ownBlock = v.ownBlock ∨ v'.ownBlock = some wr.heap.size) : TdAt w w' bs n v' tn' tk' seen := by
  have hbs : bs < wr.heap.size := h.ou.lt
  refine ⟨hrow, World.ownsRow.kept h.ou hg (.inr ?_), fun g hgg => ?_, h.lo, h.bel.grown hg h.bel.size (fun g hg => (h.row.lt g hg).1)⟩
  · intro e
    exact h.ap bs e.symm rfl
  · rcases hloc with e | e
    · rw [e] at hgg; exact h.ap g hgg
    · rw [e] at hgg; injection hgg with hgg; omega
end
theorem TdAt.start {w w3 : World} {n : Nat} {kf : Nat → Int} (o : Obj) (ho : w3.ownsRow 0 4 1 (.slice (some ⟨w.heap.size + 1 + 1, 0, none⟩) n n) n (madeCells (Value.bool false).cells (n * 1)).toList) (hg : ((w.alloc o).alloc (.cells #[.int .i64 (kf 0), .int .i64 (kf 1), .int .i64 (kf 2), .int .i64 (kf 3), .int .u32 (kf 4)] 24 (0, 0))).grownBy w3 none) :
    TdAt w w3 (w.heap.size + 1 + 1) n (.slice (some ⟨w.heap.size + 1, 0, none⟩) 1 1) 1 (fun _ => kf) (fun _ => false) := by
  have e1 : (w.alloc o).heap.size = w.heap.size + 1 := by simp
  have e2 : ((w.alloc o).alloc (.cells #[.int .i64 (kf 0), .int .i64 (kf 1), .int .i64 (kf 2), .int .i64 (kf 3), .int .u32 (kf 4)] 24 (0, 0))).heap.size = w.heap.size + 1 + 1 := by simp
  have hr := row_lit (w.alloc o) w.heap.size #[.int .i64 (kf 0), .int .i64 (kf 1), .int .i64 (kf 2), .int .i64 (kf 3), .int .u32 (kf 4)] 1 (keyRow (fun _ => kf) (List.range 1)) (by simp [List.range_succ, keyRow, kcells]) rfl (by omega) (by unfold maxLen; omega)
  rw [e1] at hr
  have hb : Below ((w.alloc o).alloc (.cells #[.int .i64 (kf 0), .int .i64 (kf 1), .int .i64 (kf 2), .int .i64 (kf 3), .int .u32 (kf 4)] 24 (0, 0))).heap.size ((w.alloc o).alloc (.cells #[.int .i64 (kf 0), .int .i64 (kf 1), .int .i64 (kf 2), .int .i64 (kf 3), .int .u32 (kf 4)] 24 (0, 0))) w3 := (Below.refl _ _).grown hg (Nat.le_refl _) (fun k hk => by cases hk)
  have hb1 : Below w.heap.size w ((w.alloc o).alloc (.cells #[.int .i64 (kf 0), .int .i64 (kf 1), .int .i64 (kf 2), .int .i64 (kf 3), .int .u32 (kf 4)] 24 (0, 0))) := ((Below.refl _ _).alloc (Nat.le_refl _) _).alloc (by simp) _
  refine ⟨rowbelow hr hb, ?_, fun g hg => by simp [Value.ownBlock] at hg; omega, by omega, hb1.trans (hb.mono hb1.size)⟩
  have e : (madeCells (Value.bool false).cells (n * 1)).toList = bools (fun _ => false) n := by
    rw [Nat.mul_one]
    show (madeCells #[Value.bool false] n).toList = _
    rw [toList_madeCells_one]
    simp [bools, List.map_const']
  rw [e] at ho
  exact ho
theorem own_some {w : World} {B E s n : Nat} {v : Value} {xs : List Value} (h : w.ownsRow B E s v n xs) (hn : 0 < n) : ∃ g c, v = .slice (some ⟨g, 0, none⟩) n c := by
  rcases h.2 with ⟨rfl, rfl⟩ | ⟨g, cap, cur, rfl, _⟩
  · omega
  · exact ⟨_, _, rfl⟩
theorem keyRow_more (tk key : Nat → Nat → Int) (tn c : Nat) : keyRow (fun j => if j < tn then tk j else key (j - tn)) (List.range (tn + c)) = keyRow tk (List.range tn) ++ keyRow key (List.range c) := by
  have h0 : ∀ m, m ≤ tn → keyRow (fun j => if j < tn then tk j else key (j - tn)) (List.range m) = keyRow tk (List.range m) := by
    intro m
    induction m with
    | zero => intro _; rfl
    | succ m ih =>
      intro hm
      rw [List.range_succ, keyRow_snoc, keyRow_snoc, ih (by omega)]
      have hl : m < tn := by omega
      simp [kcells, hl]
  induction c with
  | zero => rw [Nat.add_zero, h0 tn (Nat.le_refl _)]; simp [keyRow]
  | succ c ih =>
    rw [← Nat.add_assoc, List.range_succ, keyRow_snoc, ih, List.range_succ, keyRow_snoc, List.append_assoc]
    have hl : ¬ tn + c < tn := by omega
    simp [kcells, hl]
theorem hinfoB2 : (Try.prog.info? 4).map (fun i => (i.zero, i.size, i.bytes)) = some (some (.bool false), 1, 1) := by kernel_rfl
def kf5 (k0 k1 k2 k3 k4 : Int) : Nat → Int := fun q => if q = 0 then k0 else if q = 1 then k1 else if q = 2 then k2 else if q = 3 then k3 else k4
/-- What holds of factories beside their places. -/
structure FOk (D : FD) (sn : Nat → Nat → Bool) : Prop where
  rs : ∀ i p, i < D.n → p < D.ct i → RSens (D.key i p 0) (D.key i p 1) (D.key i p 2) (D.key i p 3) (D.key i p 4) (sn i p)
  c8 : ∀ i, i < D.n → D.ct i ≤ 8
  n20 : D.n ≤ 20
  nl : ∀ i, i < D.n → D.pa i = none → D.ct i = 0 ∧ D.cp i = 0
  ni : ∀ i p, i < D.n → p < D.ct i → NineOk D (sn i p) (D.key i p)
set_option maxRecDepth 100000 in
set_option maxHeartbeats 8000000 in
theorem rhole_is (k0 k1 k2 k3 k4 : Int) (a : Option Addr) (D : FD) (n cap : Nat) (hn : Hid (n = D.n)) (sn : Nat → Nat → Bool) (R : Nat → Bool) (hR : Hid (RIs D sn R)) (s t : Bool) (ht : Hid (holeB D R s k0 k1 k2 = t)) (hRS : Hid (RSens k0 k1 k2 k3 k4 s)) (hok : Hid (FOk D sn)) (hk9 : Hid (NineOk D s (kf5 k0 k1 k2 k3 k4))) (w : World) (hF : FacAt w a D) :
    Calls Try.prog 12 #[(Value.agg #[.int .i64 k0, .int .i64 k1, .int .i64 k2, .int .i64 k3, .int .u32 k4]), .slice a n cap] w fun e w' => e = .returned (.bool t) ∧ Below w.heap.size w w' := by
  have e := hn.out
  subst e
  have HF := Lib.hid hF
  obtain ⟨ib, hi1, hi2, hi3, hi4⟩ := info_parts hinfoB2
  have HIB := Lib.hid (⟨hi1, hi2, hi3⟩ : Try.prog.info? 4 = some ib ∧ ib.zero = some (.bool false) ∧ ib.size = 1)
  obtain ⟨ik, hj1, hj2, hj3, hj4⟩ := info_parts hinfoK
  have HIK := Lib.hid (⟨hj1, hj2, hj3, hj4⟩ : Try.prog.info? 24 = some ik ∧ ik.zero = some (.agg #[.int .i64 0, .int .i64 0, .int .i64 0, .int .i64 0, .int .u32 0]) ∧ ik.size = 5 ∧ ik.bytes = 40)
  have few := hok.out.n20
  have HN : Hid (ib.bytes * D.n ≤ 281474976710656 ∧ D.n ≤ maxLen) := Lib.hid (by rw [hi4]; unfold maxLen; omega)
  have HT : Hid (HoleP D sn s (kf5 k0 k1 k2 k3 k4) ↔ t = true) := Lib.hid (by rw [← ht.out]; exact (holeB_iff hR.out s (kf5 k0 k1 k2 k3 k4)).symm)
  clear hi1 hi2 hi3 hi4 hj1 hj2 hj3 hj4 hF
  go_enter Try.func12, Try.ntmps12
  go_upto_region 3 with (first
    | (at_make; refine wpList_make_full _ rfl _ _ 48 rfl 0 4 ib (.bool false) 1 Try.underlying48 HIB.out.1 HIB.out.2.1 HIB.out.2.2 .i64 .i64 _ _ D.n rfl rfl rfl rfl HN.out.1 HN.out.2 (Nat.zero_le _) ?_; intro w3 hown hgrow; have HO := Lib.hid hown; have HG := Lib.hid hgrow; clear hown hgrow))
  obtain ⟨bs, hbs⟩ : ∃ bs, bs = w.heap.size + 1 + 1 := ⟨_, rfl⟩
  have HTd : Hid (TdAt w w3 bs D.n (.slice (some ⟨w.heap.size + 1, 0, none⟩) 1 1) 1 (fun _ => kf5 k0 k1 k2 k3 k4) (fun _ => false)) := Lib.hid (by
    rw [hbs]
    exact TdAt.start (kf := kf5 k0 k1 k2 k3 k4) _ (by simpa using HO.out) HG.out)
  have HIn : Hid (HInv D sn s (kf5 k0 k1 k2 k3 k4) 1 (fun _ => kf5 k0 k1 k2 k3 k4) (fun _ => s) (fun _ => false) 0) := Lib.hid (HInv.start hRS.out)
  rw [← hbs]
  clear hbs HO HG
  obtain ⟨g0, hg0⟩ : ∃ g0, g0 = w.heap.size + 1 := ⟨_, rfl⟩
  rw [← hg0]
  rw [← hg0] at HTd
  clear hg0
  go_wp2_with fail
  go_loopw [5, 7, 8] (fun v z at_ wr => ∃ (m g tn c : Nat) (tk : Nat → Nat → Int) (ts seen : Nat → Bool), z = .int .i64 m ∧ v = .slice (some ⟨g, 0, none⟩) tn c ∧ TdAt w wr bs D.n (.slice (some ⟨g, 0, none⟩) tn c) tn tk seen ∧ HInv D sn s (kf5 k0 k1 k2 k3 k4) tn tk ts seen m) (fun v z _ _ => 161 - (intOf z).toNat)
  case atStart => exact ⟨0, g0, 1, 1, _, _, _, rfl, rfl, HTd.out, HIn.out⟩
  case round =>
    obtain ⟨m, g, tn, c, tk, ts, seen, rfl, rfl, htd, hin⟩ := hrel
    have HTd2 := Lib.hid htd
    have HIn2 := Lib.hid hin
    have htn : tn ≤ 161 := by have h1 := hin.few; have h2 := cntB_le seen D.n; omega
    have hmt := hin.le
    clear htd hin HTd HIn
    by_cases hlt : m < tn
    · have m0 : (0 : Int) ≤ m := by omega
      have m1 : (m : Int) < tn := by omega
      have hgl : g < wr.heap.size := (HTd2.out.row.lt g rfl).2
      have HGL := Lib.hid hgl
      have hinf := row_cells HTd2.out.row m hlt
      have HInf := Lib.hid hinf
      obtain ⟨i0, i1, i2, i3, i4⟩ := hinf
      have HSe : Hid (RSens (tk m 0) (tk m 1) (tk m 2) (tk m 3) (tk m 4) (ts m)) := Lib.hid (HIn2.out.rs m hlt)
      obtain ⟨y0, Hy0⟩ : ∃ y0, Hid (tk m 0 = y0) := ⟨_, Lib.hid rfl⟩
      obtain ⟨y1, Hy1⟩ : ∃ y1, Hid (tk m 1 = y1) := ⟨_, Lib.hid rfl⟩
      obtain ⟨y2, Hy2⟩ : ∃ y2, Hid (tk m 2 = y2) := ⟨_, Lib.hid rfl⟩
      obtain ⟨y3, Hy3⟩ : ∃ y3, Hid (tk m 3 = y3) := ⟨_, Lib.hid rfl⟩
      obtain ⟨y4, Hy4⟩ : ∃ y4, Hid (tk m 4 = y4) := ⟨_, Lib.hid rfl⟩
      rw [Hy0.out] at i0
      rw [Hy1.out] at i1
      rw [Hy2.out] at i2
      rw [Hy3.out] at i3
      rw [Hy4.out] at i4
      rw [Hy0.out, Hy1.out, Hy2.out, Hy3.out, Hy4.out] at HSe HInf
      obtain ⟨tt, Htt⟩ : ∃ tt, Hid (ts m = tt) := ⟨_, Lib.hid rfl⟩
      rw [Htt.out] at HSe
      clear hgl
      cases tt with
      | true =>
        go_wp2_with (first
          | (go_at_call 21; (with_reducible refine (HSe.out.at _).mono ?_); rintro e w4 ⟨rfl, hb⟩; have HB4 := Lib.hid hb; clear hb))
        go_roundw
        case rel => exact ⟨m + 1, g, tn, c, tk, ts, seen, by go_num, rfl, HTd2.out.step HB4.out, HIn2.out.sens hlt Htt.out⟩
        case measure => simp [intOf]; omega
      | false =>
        by_cases h9 : y0 = 9
        · subst h9
          have hx : D.tgt (tk m 0) (tk m 1) (tk m 2) = D.fidx y1 y2 D.n := by rw [Hy0.out, Hy1.out, Hy2.out]; simp [FD.tgt]
          cases hf : D.fnd y1 y2 with
          | none =>
            have hfi : Hid (fndI D y1 y2 = -1) := Lib.hid (by simp [fndI, hf])
            have HF2 := Lib.hid hf
            clear hf hx
            go_wp2_with (first
              | (go_at_call 21; (with_reducible refine (HSe.out.at _).mono ?_); rintro e w4 ⟨rfl, hb⟩; have HB4 := Lib.hid hb; obtain ⟨j0, j1, j2, j3, j4⟩ := HInf.out.below hb HGL.out; clear hb)
              | (go_at_call 22; (with_reducible refine (rfind_is 9 y1 y2 y3 y4 a D D.n cap (Lib.hid rfl) _ (HF.out.below ((HTd2.out.bel).trans (HB4.out.mono HTd2.out.bel.size)))).mono ?_); rintro e w5 ⟨rfl, hb⟩; rw [hfi.out]; have HB5 := Lib.hid (HB4.out.trans (hb.mono HB4.out.size)); clear hb))
            go_ret
            refine ⟨?_, (HTd2.out.step HB5.out).bel⟩
            have hy := HIn2.out.yes hlt Htt.out (.inr (by rw [Hy1.out, Hy2.out]; exact HF2.out))
            obtain rfl := HT.out.1 hy
            rfl
          | some i =>
            have hxi : D.fidx y1 y2 D.n = some i ∧ D.sl i = true := by
              unfold FD.fnd at hf
              cases hq : D.fidx y1 y2 D.n with
              | none => rw [hq] at hf; cases hf
              | some j =>
                rw [hq] at hf
                cases hs : D.sl j with
                | false => simp [hs] at hf
                | true => simp [hs] at hf; subst hf; exact ⟨rfl, hs⟩
            have hfi : Hid (fndI D y1 y2 = (i : Int)) := Lib.hid (by simp [fndI, hf])
            have HTg : Hid (D.tgt (tk m 0) (tk m 1) (tk m 2) = some i) := Lib.hid (hx.trans hxi.1)
            have hi := FD.tgt_lt HTg.out
            have HSl := Lib.hid hxi.2
            have z0 : (0 : Int) ≤ i := by omega
            have z1 : (i : Int) < D.n := by omega
            have z2 : decide ((i : Int) < 0) = false := decide_eq_false (by omega)
            clear hf hx hxi
            cases hs : seen i with
            | true =>
              have HS := Lib.hid hs
              clear hs
              go_wp2_with (first
                | (go_at_call 21; (with_reducible refine (HSe.out.at _).mono ?_); rintro e w4 ⟨rfl, hb⟩; have HB4 := Lib.hid hb; obtain ⟨j0, j1, j2, j3, j4⟩ := HInf.out.below hb HGL.out; clear hb)
                | (go_at_call 22; (with_reducible refine (rfind_is 9 y1 y2 y3 y4 a D D.n cap (Lib.hid rfl) _ (HF.out.below ((HTd2.out.bel).trans (HB4.out.mono HTd2.out.bel.size)))).mono ?_); rintro e w5 ⟨rfl, hb⟩; rw [hfi.out]; have HB5 := Lib.hid (HB4.out.trans (hb.mono HB4.out.size)); have hs0 := ((HTd2.out.step HB5.out).ou.at_ i hi).1; rw [HS.out] at hs0; clear hb))
              go_roundw
              case rel => exact ⟨m + 1, g, tn, c, tk, ts, seen, by go_num, rfl, HTd2.out.step HB5.out, HIn2.out.old hlt HTg.out HS.out⟩
              case measure => simp [intOf]; omega
            | false =>
              have HS := Lib.hid hs
              clear hs
              go_upto_region 14 with (first
                | (go_at_call 21; (with_reducible refine (HSe.out.at _).mono ?_); rintro e w4 ⟨rfl, hb⟩; have HB4 := Lib.hid hb; obtain ⟨j0, j1, j2, j3, j4⟩ := HInf.out.below hb HGL.out; clear hb)
                | (go_at_call 22; (with_reducible refine (rfind_is 9 y1 y2 y3 y4 a D D.n cap (Lib.hid rfl) _ (HF.out.below ((HTd2.out.bel).trans (HB4.out.mono HTd2.out.bel.size)))).mono ?_); rintro e w5 ⟨rfl, hb⟩; rw [hfi.out]; have HB5 := Lib.hid (HB4.out.trans (hb.mono HB4.out.size)); obtain ⟨hs0, hs1⟩ := (HTd2.out.step HB5.out).ou.at_ i hi; rw [HS.out] at hs0; clear hb))
              obtain ⟨w6, hw6⟩ : ∃ w6, w6 = w5.setCell ⟨bs, i, none⟩ (.bool true) := ⟨_, rfl⟩
              have HTd6 : Hid (TdAt w w6 bs D.n (.slice (some ⟨g, 0, none⟩) tn c) tn tk (updB seen i true)) := Lib.hid (by rw [hw6]; exact (HTd2.out.step HB5.out).put i hi)
              rw [← hw6]
              clear hw6 hs0 hs1 i0 i1 i2 i3 i4 j0 j1 j2 j3 j4
              have HNew := Lib.hid (HIn2.out.new hlt hok.out.rs hok.out.c8 HTg.out HSl.out HS.out)
              obtain ⟨ad, rfl, hbl, hrow, hw1, hw2⟩ := HF.out.row i hi
              obtain ⟨i0, i1, i2, i3⟩ := hrow.below HTd6.out.bel hbl
              have HKy := Lib.hid ((HF.out.part i hi).below HTd6.out.bel)
              have hc8 := hok.out.c8 i hi
              have hnl := hok.out.nl i hi
              clear hrow hbl hw1 hw2 i0 i1 i2
              obtain ⟨xc, Hxc⟩ : ∃ xc, Hid (D.ct i = xc) := ⟨_, Lib.hid rfl⟩
              obtain ⟨xd, Hxd⟩ : ∃ xd, Hid (D.cp i = xd) := ⟨_, Lib.hid rfl⟩
              rw [Hxc.out] at HKy hc8 i3 HNew hnl
              rw [Hxd.out] at i3 hnl
              cases hpa : D.pa i with
              | none =>
                obtain ⟨e1, e2⟩ := hnl hpa
                rw [hpa, e1, e2] at i3
                have HE := Lib.hid e1
                clear hnl hpa e1 e2
                go_wp2_with (first
                  | (at_builtin; refine wpList_append_own_none rfl _ _ 25 rfl w.heap.size 24 ik 5 Try.underlying25 HIK.out.1 (Value.slice (some ⟨g, 0, none⟩) tn c) tn _ rfl HTd6.out.row rfl ?_))
                go_roundw
                case rel =>
                  refine ⟨m + 1, g, tn + xc, c, _, _, _, by go_num, by rw [HE.out]; rfl, ?_, HNew.out⟩
                  have h := HTd6.out
                  refine ⟨?_, h.ou, ?_, h.lo, h.bel⟩
                  · rw [keyRow_more, HE.out]
                    simpa [keyRow] using h.row
                  · rw [HE.out]; exact h.ap
                case measure => simp [intOf]; omega
              | some pd =>
                rw [hpa] at i3
                have HKz : Hid (KysAt w6 (some pd) xc (D.key i)) := Lib.hid (by have h := HKy.out; rwa [hpa] at h)
                have H6 : Hid (tn + xc ≤ maxLen ∧ (tn + xc) * 40 ≤ 140737488355328 ∧ w.heap.size ≤ w6.heap.size) := Lib.hid ⟨by unfold maxLen; omega, by omega, HTd6.out.bel.size⟩
                have htn0 : 0 < tn + xc := by omega
                clear hnl hpa HKy
                go_wp2_with (first
                  | (at_builtin; refine wpList_append_own_at _ rfl _ _ 25 rfl w.heap.size 24 ik (.agg #[.int .i64 0, .int .i64 0, .int .i64 0, .int .i64 0, .int .u32 0]) 5 40 Try.underlying25 HIK.out.1 HIK.out.2.1 HIK.out.2.2.1 HIK.out.2.2.2 rfl (by decide) (Value.slice (some ⟨g, 0, none⟩) tn c) tn _ rfl HTd6.out.row pd xc xd (keyRow (D.key i) (List.range xc)) rfl (keyRow_len _ _) (kys_news HKz.out) (keyRow_one _ _) H6.out.1 H6.out.2.1 H6.out.2.2 ?_; intro v' w9 hown hgrow hnil hloc; rw [← keyRow_more] at hown; obtain ⟨g', c', rfl⟩ := own_some hown htn0; have HOW := Lib.hid hown; have HGR := Lib.hid hgrow; have HLOC := Lib.hid hloc; clear hown hgrow hnil hloc))
                go_roundw
                case rel => exact ⟨m + 1, g', tn + xc, c', _, _, _, by go_num, rfl, HTd6.out.app HOW.out HGR.out HLOC.out, HNew.out⟩
                case measure => simp [intOf]; omega
        · have e9 : (y0 == 9) = false := by simpa using h9
          have H9 := Lib.hid h9
          clear h9
          go_wp2_with (first
            | (go_at_call 21; (with_reducible refine (HSe.out.at _).mono ?_); rintro e w4 ⟨rfl, hb⟩; have HB4 := Lib.hid hb; obtain ⟨j0, j1, j2, j3, j4⟩ := HInf.out.below hb HGL.out; clear hb))
          go_ret
          refine ⟨?_, (HTd2.out.step HB4.out).bel⟩
          have hy := HIn2.out.yes hlt Htt.out (.inl (by rw [Hy0.out]; exact H9.out))
          obtain rfl := HT.out.1 hy
          rfl
    · obtain rfl : m = tn := by omega
      have hmm : decide (m < m) = false := by simp
      go_wp2_with fail
      go_ret
      refine ⟨?_, HTd2.out.bel⟩
      have hno := HIn2.out.no hok.out.ni hk9.out
      cases t with
      | false => rfl
      | true => exact absurd (HT.out.2 rfl) hno
end Go.Proofs.Ytahhnfhnlffmpaa
