/-
  hole: Of, Closed, Is among factories.
-/
import Derived.Test.YtahhnfhnlffmpaaHk
namespace Go.Proofs.Ytahhnfhnlffmpaa
open Go.ChangeShapes Go.WideShapes Go.ChangeAt Go.RowKit Go.Maps
set_option linter.unusedVariables false
theorem bools_congr {R R' : Nat → Bool} {n : Nat} (h : ∀ x, x < n → R x = R' x) : bools R n = bools R' n := by
  apply List.ext_getElem?
  intro j
  by_cases hj : j < n
  · rw [bools_at _ _ _ hj, bools_at _ _ _ hj, h j hj]
  · rw [List.getElem?_eq_none (by rw [bools_len]; omega), List.getElem?_eq_none (by rw [bools_len]; omega)]
/-- What was told is what reaches out. -/
def RIs (D : FD) (sn : Nat → Nat → Bool) (R : Nat → Bool) : Prop := ∀ x, x < D.n → (R x = true ↔ (D.fac sn).Reach x)
theorem hlook_is (a : Option Addr) (D : FD) (n cap : Nat) (hn : Hid (n = D.n)) (sn : Nat → Nat → Bool) (R : Nat → Bool) (hR : Hid (RIs D sn R)) (w : World) (hF : FacAt w a D) (hS : Hid (SnOk D sn)) :
    Calls Try.prog 19 #[.slice a n cap] w fun e w' => ∃ bm bo m M, e = .returned (.agg #[.map (some bm), .slice (some ⟨bo, 0, none⟩) n n]) ∧ SvAt w' D bm bo m M R ∧ Below w.heap.size w w' := by
  have e := hn.out
  subst e
  refine (hlook_any a D cap sn w hF hS.out).mono fun e w' ⟨bm, bo, m, M, R', he, hs, hr, hb⟩ => ⟨bm, bo, m, M, he, ⟨hs.mp, hs.mi, ?_⟩, hb⟩
  have hc : bools R' D.n = bools R D.n := bools_congr fun x hx => by
    have h1 := hr.out x hx
    have h2 := hR.out x hx
    cases h3 : R' x <;> cases h4 : R x <;> simp_all
  have ho := hs.ou
  unfold OutAt at ho ⊢
  rw [← hc]
  exact ho
/-- Which of the first m. -/
def pickTo (p : Nat → Bool) : Nat → List Nat
  | 0 => []
  | m + 1 => if p m then pickTo p m ++ [m] else pickTo p m
theorem pickTo_len (p : Nat → Bool) : ∀ m, (pickTo p m).length ≤ m
  | 0 => Nat.le_refl _
  | m + 1 => by have := pickTo_len p m; unfold pickTo; split <;> simp <;> omega
theorem pickTo_mem (p : Nat → Bool) : ∀ m x, x ∈ pickTo p m ↔ x < m ∧ p x = true
  | 0, x => by simp [pickTo]
  | m + 1, x => by
    have ih := pickTo_mem p m x
    unfold pickTo
    split
    · rename_i hp
      rw [List.mem_append, ih, List.mem_singleton]
      constructor
      · rintro (h | rfl)
        · exact ⟨by omega, h.2⟩
        · exact ⟨by omega, hp⟩
      · rintro ⟨h1, h2⟩
        by_cases e : x = m
        · exact .inr e
        · exact .inl ⟨by omega, h2⟩
    · rename_i hp
      rw [ih]
      constructor
      · rintro ⟨h1, h2⟩
        exact ⟨by omega, h2⟩
      · rintro ⟨h1, h2⟩
        by_cases e : x = m
        · rw [e] at h2; exact absurd h2 hp
        · exact ⟨by omega, h2⟩
theorem pickTo_nil {p : Nat → Bool} {m : Nat} (h : ∀ x, x < m → p x = false) : pickTo p m = [] := by
  apply List.eq_nil_iff_forall_not_mem.2
  intro x hx
  have := (pickTo_mem p m x).1 hx
  rw [h x this.1] at this
  exact absurd this.2 (by simp)
theorem pickTo_pos {p : Nat → Bool} {m x : Nat} (hx : x < m) (h : p x = true) : pickTo p m ≠ [] := by
  intro e
  have := (pickTo_mem p m x).2 ⟨hx, h⟩
  rw [e] at this
  cases this
def kcells (key : Nat → Nat → Int) (j : Nat) : List Value := [.int .i64 (key j 0), .int .i64 (key j 1), .int .i64 (key j 2), .int .i64 (key j 3), .int .u32 (key j 4)]
def keyRow (key : Nat → Nat → Int) (l : List Nat) : List Value := l.flatMap (kcells key)
theorem keyRow_snoc (key : Nat → Nat → Int) (l : List Nat) (j : Nat) : keyRow key (l ++ [j]) = keyRow key l ++ kcells key j := by simp [keyRow]
/-- A row of keys that was made here. -/
def KRow (w : World) (base : Nat) (v : Value) (l : List Nat) (key : Nat → Nat → Int) : Prop := w.ownsRow base 24 5 v l.length (keyRow key l)
theorem hinfoK : (Try.prog.info? 24).map (fun i => (i.zero, i.size, i.bytes)) = some (some (.agg #[.int .i64 0, .int .i64 0, .int .i64 0, .int .i64 0, .int .u32 0]), 5, 40) := by kernel_rfl
theorem five_at {l : List Value} {a b c d e : Value} (hl : l = [a, b, c, d, e]) (w : World) (T : TypeId) : ∀ j u, l[j]? = some u → (w.alloc (.cells #[a, b, c, d, e] T (0, 0))).cell? (Addr.add ⟨w.heap.size, 0, none⟩ j) = some u := by
  subst hl
  intro j u hj
  rw [Addr.add_lit, Nat.zero_add]
  simpa using hj
theorem five_one (x0 x1 x2 x3 x4 : Int) : ∀ u ∈ [Value.int .i64 x0, .int .i64 x1, .int .i64 x2, .int .i64 x3, .int .u32 x4], u.oneCell' = true := by
  intro u hu
  simp at hu
  rcases hu with rfl | rfl | rfl | rfl | rfl <;> rfl
theorem cell_lay2 {w : World} {b j : Nat} {v : Value} (h : w.cell? ⟨b, j, none⟩ = some v) {w' : World} (hb : Below w.heap.size w w') : w'.cell? ⟨b, j, none⟩ = some v := by
  have hl : b < w.heap.size := by
    rcases Nat.lt_or_ge b w.heap.size with h' | h'
    · exact h'
    · simp [World.cell?, Array.getElem?_eq_none h'] at h
  exact (hb.cell (p := ⟨b, j, none⟩) hl).trans h
theorem SvAt.up {w w' : World} {D : FD} {bm bo m : Nat} {M : DataW Unit} {R : Nat → Bool} (h : SvAt w D bm bo m M R) {row : Option Nat} (hg : w.grownBy w' row) (h1 : some bm ≠ row) (h2 : some bo ≠ row) : SvAt w' D bm bo m M R :=
  ⟨h.mp.kept hg h1, h.mi, World.ownsRow.kept h.ou hg (.inr h2)⟩
set_option maxRecDepth 100000 in
set_option maxHeartbeats 4000000 in
theorem hof_is (a : Option Addr) (D : FD) (n cap : Nat) (hn : Hid (n = D.n)) (sn : Nat → Nat → Bool) (R : Nat → Bool) (hR : Hid (RIs D sn R)) (xi xv : Int) (xs : Bool) (pa : Option Addr) (ct cp : Nat) (key : Nat → Nat → Int) (sn2 : Nat → Bool) (h64 : ct ≤ 64)
    (hS2 : Hid (∀ j, j < ct → Sens (key j 0) (key j 1) (key j 2) (key j 3) (key j 4) (sn2 j))) (p : Nat → Bool) (hp : Hid (∀ j, j < ct → holeB D R (sn2 j) (key j 0) (key j 1) (key j 2) = p j)) (w : World) (hF : FacAt w a D) (hK : KysAt w pa ct key) (hS : Hid (SnOk D sn)) :
    Calls Try.prog 14 #[.agg #[.int .i64 xi, .int .i64 xv, .bool xs, .slice pa ct cp], .slice a n cap] w fun e w' => ∃ v, e = .returned v ∧ KRow w' w.heap.size v (pickTo p ct) key ∧ Below w.heap.size w w' := by
  have HF : Hid (∀ o, FacAt (w.alloc o) a D) := Lib.hid fun o => hF.below ((Below.refl _ _).alloc (Nat.le_refl _) _)
  have HKy := Lib.hid hK
  obtain ⟨ik, hi1, hi2, hi3, hi4⟩ := info_parts hinfoK
  have HIK := Lib.hid (⟨hi1, hi2, hi3, hi4⟩ : Try.prog.info? 24 = some ik ∧ ik.zero = some (.agg #[.int .i64 0, .int .i64 0, .int .i64 0, .int .i64 0, .int .u32 0]) ∧ ik.size = 5 ∧ ik.bytes = 40)
  clear hi1 hi2 hi3 hi4 hF hK
  go_enter Try.func14, Try.ntmps14
  go_upto_region 3 with (first
    | (go_at_call 19; (with_reducible refine (hlook_is a D n cap hn sn R hR _ (HF.out _) hS).mono ?_); rintro e w1 ⟨bm, bo, m, M, rfl, hs, hb⟩; have HS1 := Lib.hid hs; have HB1 := Lib.hid hb; clear hs hb))
  obtain ⟨w2, hw2⟩ : ∃ w2, w2 = w1.alloc (.cells #[.map (some bm), .slice (some ⟨bo, 0, none⟩) n n] 50) := ⟨_, rfl⟩
  obtain ⟨sb, hsb⟩ : ∃ sb, sb = w1.heap.size := ⟨_, rfl⟩
  have HB2 : Hid (Below w.heap.size w w2) := Lib.hid (by rw [hw2]; have h1 := HB1.out; exact ((Below.trans ((Below.refl _ _).alloc (Nat.le_refl _) _) (h1.mono (by simp))).alloc (by have := h1.size; simp at this; omega) _))
  have HS2 : Hid (SvAt w2 D bm bo m M R) := Lib.hid (by rw [hw2]; exact HS1.out.below ((Below.refl _ _).alloc (Nat.le_refl _) _))
  have HSB : Hid (w2.heap[sb]? = some (.cells #[.map (some bm), .slice (some ⟨bo, 0, none⟩) n n] 50 (0, 0)) ∧ w.heap.size < sb ∧ sb < w2.heap.size ∧ bm < sb ∧ bo < sb) := Lib.hid (by rw [hw2, hsb]; have h1 := HB1.out.size; simp at h1; exact ⟨heap_alloc_new _ _, by omega, by simp, HS1.out.mp.lt, HS1.out.ou.lt⟩)
  have g3 : w2.cell? ⟨w.heap.size, 3, none⟩ = some (.slice pa ct cp) := by
    rw [hw2]
    refine cell_lay (cell_lay2 (w := w.alloc (.cells #[.int .i64 xi, .int .i64 xv, .bool xs, .slice pa ct cp] 27 (0, 0))) ?_ HB1.out) _
    simp
  rw [← hw2, ← hsb]
  clear hw2 hsb HS1 HB1
  go_wp2_with fail
  clear g3
  go_loopw [14, 6] (fun z v wr => ∃ q : Nat, q ≤ ct ∧ z = .int .i64 q ∧ KRow wr (sb + 1) v (pickTo p q) key ∧ SvAt wr D bm bo m M R ∧ wr.heap[sb]? = some (.cells #[.map (some bm), .slice (some ⟨bo, 0, none⟩) n n] 50 (0, 0)) ∧ Below w.heap.size w wr) (fun z _ _ => ct - (intOf z).toNat)
  case atStart => exact ⟨0, by omega, rfl, World.ownsRow_nil _ _ _ _, HS2.out, HSB.out.1, HB2.out⟩
  case round =>
    obtain ⟨q, hq, rfl, hrow, hs, hsb, hb⟩ := hrel
    have HRow := Lib.hid hrow
    have HS3 := Lib.hid hs
    have HSb3 := Lib.hid hsb
    have HB3 := Lib.hid hb
    have hsl : sb < wr.heap.size := lt_of_block' hsb
    have HSL := Lib.hid hsl
    clear hrow hs hsb hb hsl
    by_cases hlt : q < ct
    · obtain ⟨pd, rfl, hbl, hin, hw1, hw2⟩ := HKy.out q hlt
      have hin2 := hin.below HB3.out hbl
      have HT : Hid (holeB D R (sn2 q) (key q 0) (key q 1) (key q 2) = p q) := Lib.hid (hp.out q hlt)
      have HSn : Hid (Sens (key q 0) (key q 1) (key q 2) (key q 3) (key q 4) (sn2 q)) := Lib.hid (hS2.out q hlt)
      obtain ⟨tt, Htt⟩ : ∃ tt, Hid (p q = tt) := ⟨_, Lib.hid rfl⟩
      have HKC : Hid (kcells key q = [.int .i64 (key q 0), .int .i64 (key q 1), .int .i64 (key q 2), .int .i64 (key q 3), .int .u32 (key q 4)]) := Lib.hid rfl
      obtain ⟨k0, Hk0⟩ : ∃ k0, Hid (key q 0 = k0) := ⟨_, Lib.hid rfl⟩
      obtain ⟨k1, Hk1⟩ : ∃ k1, Hid (key q 1 = k1) := ⟨_, Lib.hid rfl⟩
      obtain ⟨k2, Hk2⟩ : ∃ k2, Hid (key q 2 = k2) := ⟨_, Lib.hid rfl⟩
      obtain ⟨k3, Hk3⟩ : ∃ k3, Hid (key q 3 = k3) := ⟨_, Lib.hid rfl⟩
      obtain ⟨k4, Hk4⟩ : ∃ k4, Hid (key q 4 = k4) := ⟨_, Lib.hid rfl⟩
      rw [Hk0.out, Hk1.out, Hk2.out, Hk3.out, Hk4.out] at hin2 HSn HKC
      rw [Hk0.out, Hk1.out, Hk2.out, Htt.out] at HT
      rw [Hk1.out] at hw1
      rw [Hk2.out] at hw2
      have HW := Lib.hid (⟨hw1, hw2⟩ : wfH k1 ∧ wfH k2)
      obtain ⟨i0, i1, i2, i3, i4⟩ := hin2
      have q0 : (0 : Int) ≤ q := by omega
      have q1 : (q : Int) < ct := by omega
      have hs0 : wr.cell? ⟨sb, 0, none⟩ = some (.map (some bm)) := by simp [World.cell?, HSb3.out]
      have hs1 : wr.cell? ⟨sb, 1, none⟩ = some (.slice (some ⟨bo, 0, none⟩) n n) := by simp [World.cell?, HSb3.out]
      have s0 : ∀ o, (wr.alloc o).cell? ⟨sb, 0, none⟩ = some (.map (some bm)) := fun o => cell_lay hs0 o
      have s1 : ∀ o, (wr.alloc o).cell? ⟨sb, 1, none⟩ = some (.slice (some ⟨bo, 0, none⟩) n n) := fun o => cell_lay hs1 o
      have hnn := hn.out
      subst hnn
      clear hs0 hs1 hw1 hw2 hin hbl
      have hpl := pickTo_len p q
      obtain ⟨ln, hln⟩ : ∃ ln, (pickTo p q).length = ln := ⟨_, rfl⟩
      have H6 : Hid (ln + 1 ≤ maxLen ∧ (ln + 1) * 40 ≤ 140737488355328) := Lib.hid ⟨by unfold maxLen; omega, by omega⟩
      have HRow2 : Hid (wr.ownsRow (sb + 1) 24 5 u6 ln (keyRow key (pickTo p q))) := Lib.hid (by have h := HRow.out; unfold KRow at h; rwa [hln] at h)
      have HLN := Lib.hid hln
      clear hpl hln
      cases tt with
      | false =>
        go_wp2_with (first
          | (go_at_call 20; (with_reducible refine (hishole_any k0 k1 k2 k3 k4 D bm bo m M R _ false HT HW.out.1 HW.out.2 HSn.out _ (HS3.out.below ((Below.refl _ _).alloc (Nat.le_refl _) _))).mono ?_); rintro e w3 ⟨rfl, hb⟩; have HB4 : Hid (Below wr.heap.size wr w3) := Lib.hid (Below.trans ((Below.refl _ _).alloc (Nat.le_refl _) _) (hb.mono (by simp))); clear hb))
        go_roundw
        case rel => exact ⟨q + 1, by omega, by go_num, by unfold pickTo; rw [Htt.out]; exact rowbelow HRow.out HB4.out, HS3.out.below HB4.out, (HB4.out.block sb HSL.out).trans HSb3.out, HB3.out.trans (HB4.out.mono HB3.out.size)⟩
        case measure => simp [intOf]; omega
      | true =>
        go_wp2_with (first
          | (go_at_call 20; (with_reducible refine (hishole_any k0 k1 k2 k3 k4 D bm bo m M R _ true HT HW.out.1 HW.out.2 HSn.out _ (HS3.out.below ((Below.refl _ _).alloc (Nat.le_refl _) _))).mono ?_); rintro e w3 ⟨rfl, hb⟩; obtain ⟨hc, hf⟩ := bcell hb; have HB4 : Hid (Below wr.heap.size wr w3) := Lib.hid (Below.trans ((Below.refl _ _).alloc (Nat.le_refl _) _) (hb.mono (by simp))); have HR3 := Lib.hid (rowbelow HRow2.out HB4.out); have HBs : Hid (∀ o, sb + 1 ≤ (w3.alloc o).heap.size) := Lib.hid (fun o => by have := HB4.out.size; have := HSL.out; simp; omega); clear hb)
          | (at_builtin; refine wpList_append_own_at _ rfl _ _ 25 rfl (sb + 1) 24 ik (.agg #[.int .i64 0, .int .i64 0, .int .i64 0, .int .i64 0, .int .u32 0]) 5 40 Try.underlying25 HIK.out.1 HIK.out.2.1 HIK.out.2.2.1 HIK.out.2.2.2 rfl (by decide) _ _ _ rfl (HR3.out.alloc _) ⟨w3.heap.size, 0, none⟩ 1 1 [.int .i64 k0, .int .i64 k1, .int .i64 k2, .int .i64 k3, .int .u32 k4] rfl rfl (five_at rfl _ _) (five_one _ _ _ _ _) H6.out.1 H6.out.2 (HBs.out _) ?_; intro v' w9 hown hgrow hnil hloc; have HOW := Lib.hid hown; have HGR := Lib.hid ((World.grownBy_alloc _ _ _).trans hgrow); clear hown hgrow hnil hloc hc hf))
        have hgl : ∀ g, u6.ownBlock = some g → sb + 1 ≤ g := fun g hg => (HRow2.out.lt g hg).1
        go_roundw
        case rel =>
          have hq2 := HSB.out.2
          have ho : ∀ k, k ≤ sb → some k ≠ u6.ownBlock := fun k hk e => by have := hgl k e.symm; omega
          refine ⟨q + 1, by omega, by go_num, ?_, (HS3.out.below HB4.out).up HGR.out (ho bm (by omega)) (ho bo (by omega)), (HGR.out.block sb (Nat.lt_of_lt_of_le HSL.out HB4.out.size) (ho sb (Nat.le_refl _))).trans ((HB4.out.block sb HSL.out).trans HSb3.out), (HB3.out.trans (HB4.out.mono HB3.out.size)).grown HGR.out (Nat.le_trans HB3.out.size HB4.out.size) (fun g hg => by have := hgl g hg; omega)⟩
          unfold pickTo KRow
          rw [Htt.out, if_pos rfl, List.length_append, List.length_singleton, HLN.out, keyRow_snoc, HKC.out]
          exact HOW.out
        case measure => simp [intOf]; omega
    · obtain rfl : q = ct := by omega
      have hqq : decide (q < q) = false := by simp
      go_wp2_with fail
      go_ret
      refine ⟨_, rfl, ?_, HB3.out⟩
      have hr := HRow.out
      refine ⟨hr.1, ?_⟩
      rcases hr.2 with h | ⟨g, cap', cur, e, hB, rest⟩
      · exact .inl h
      · exact .inr ⟨g, cap', cur, e, by have := HSB.out.2; omega, rest⟩
theorem hof_empty {w : World} {base : Nat} {v : Value} {l : List Nat} {key : Nat → Nat → Int} (h : KRow w base v l key) : ∃ a c, v = .slice a l.length c := own_shape h
set_option maxRecDepth 100000 in
set_option maxHeartbeats 4000000 in
theorem hclosed_is (a : Option Addr) (D : FD) (n cap : Nat) (hn : Hid (n = D.n)) (sn : Nat → Nat → Bool) (R : Nat → Bool) (hR : Hid (RIs D sn R)) (xi xv : Int) (xs : Bool) (pa : Option Addr) (ct cp : Nat) (key : Nat → Nat → Int) (sn2 : Nat → Bool) (h64 : ct ≤ 64)
    (hS2 : Hid (∀ j, j < ct → Sens (key j 0) (key j 1) (key j 2) (key j 3) (key j 4) (sn2 j))) (p : Nat → Bool) (hp : Hid (∀ j, j < ct → holeB D R (sn2 j) (key j 0) (key j 1) (key j 2) = p j)) (t : Bool) (ht : Hid (decide ((pickTo p ct).length = 0) = t)) (w : World) (hF : FacAt w a D) (hK : KysAt w pa ct key) (hS : Hid (SnOk D sn)) :
    Calls Try.prog 15 #[.agg #[.int .i64 xi, .int .i64 xv, .bool xs, .slice pa ct cp], .slice a n cap] w fun e w' => e = .returned (.bool t) ∧ Below w.heap.size w w' := by
  have HF : Hid (∀ o, FacAt (w.alloc o) a D) := Lib.hid fun o => hF.below ((Below.refl _ _).alloc (Nat.le_refl _) _)
  have HK : Hid (∀ o, KysAt (w.alloc o) pa ct key) := Lib.hid fun o => hK.below ((Below.refl _ _).alloc (Nat.le_refl _) _)
  clear hF hK
  obtain ⟨ln, hln⟩ : ∃ ln, (pickTo p ct).length = ln := ⟨_, rfl⟩
  have HLN := Lib.hid hln
  cases t with
  | true =>
    have h0 : ln = 0 := by have := of_decide_eq_true ht.out; omega
    have H0 := Lib.hid h0
    clear hln h0
    go_enter Try.func15, Try.ntmps15
    go_wp2_with (first
      | (go_at_call 14; (with_reducible refine (hof_is a D n cap hn sn R hR xi xv xs pa ct cp key sn2 h64 hS2 p hp _ (HF.out _) (HK.out _) hS).mono ?_); rintro e w1 ⟨v, rfl, hr, hb⟩; have HB : Hid (Below w.heap.size w w1) := Lib.hid (Below.trans ((Below.refl _ _).alloc (Nat.le_refl _) _) (hb.mono (by simp))); obtain ⟨va, vc, rfl⟩ := hof_empty hr; rw [HLN.out, H0.out]; clear hr hb))
    go_ret
    exact ⟨rfl, HB.out⟩
  | false =>
    have h0 : ((ln : Int) == 0) = false := by have := of_decide_eq_false ht.out; simp; omega
    clear hln
    go_enter Try.func15, Try.ntmps15
    go_wp2_with (first
      | (go_at_call 14; (with_reducible refine (hof_is a D n cap hn sn R hR xi xv xs pa ct cp key sn2 h64 hS2 p hp _ (HF.out _) (HK.out _) hS).mono ?_); rintro e w1 ⟨v, rfl, hr, hb⟩; have HB : Hid (Below w.heap.size w w1) := Lib.hid (Below.trans ((Below.refl _ _).alloc (Nat.le_refl _) _) (hb.mono (by simp))); obtain ⟨va, vc, rfl⟩ := hof_empty hr; rw [HLN.out]; clear hr hb))
    go_ret
    exact ⟨rfl, HB.out⟩
set_option maxRecDepth 100000 in
theorem hisf_is (k0 k1 k2 k3 k4 : Int) (a : Option Addr) (D : FD) (n cap : Nat) (hn : Hid (n = D.n)) (sn : Nat → Nat → Bool) (R : Nat → Bool) (hR : Hid (RIs D sn R)) (s t : Bool) (ht : Hid (holeB D R s k0 k1 k2 = t)) (h1 : wfH k1) (h2 : wfH k2) (hSn : Sens k0 k1 k2 k3 k4 s) (w : World) (hF : FacAt w a D) (hS : Hid (SnOk D sn)) :
    Calls Try.prog 11 #[(Value.agg #[.int .i64 k0, .int .i64 k1, .int .i64 k2, .int .i64 k3, .int .u32 k4]), .slice a n cap] w fun e w' => e = .returned (.bool t) ∧ Below w.heap.size w w' := by
  have st := start1 w k0 k1 k2 k3 k4
  have ST := Lib.hid st
  have HSn := Lib.hid hSn
  have HW := Lib.hid (⟨h1, h2⟩ : wfH k1 ∧ wfH k2)
  have HF : Hid (∀ o, FacAt (World.drew (w.alloc o)) a D) := Lib.hid fun o => hF.below (((Below.refl _ _).alloc (Nat.le_refl _) _ : Below w.heap.size w _).drew)
  have hnn := hn.out
  subst hnn
  clear st hSn hF h1 h2
  go_enter Try.func11, Try.ntmps11
  go_wp2
  go_region_held3 (fun w' => Below w.heap.size w w' ∧ w.heap.size < w'.heap.size ∧ w'.cell? ⟨w.heap.size, 0, none⟩ = some (.int .i64 k0) ∧ w'.cell? ⟨w.heap.size, 1, none⟩ = some (.int .i64 k1) ∧ w'.cell? ⟨w.heap.size, 2, none⟩ = some (.int .i64 k2) ∧ w'.cell? ⟨w.heap.size, 3, none⟩ = some (.int .i64 k3) ∧ w'.cell? ⟨w.heap.size, 4, none⟩ = some (.int .u32 k4)) (first | exact ST.out | exact keep1 _ _ _ _ _ (by assumption) hb)
    (first | (go_at_call 19; (with_reducible refine (hlook_is a D D.n cap (Lib.hid rfl) sn R hR _ (HF.out _) hS).mono ?_); rintro e w' ⟨bm, bo, m, M, rfl, hs, hb⟩) | (go_at_call 20; (with_reducible refine (hishole_any k0 k1 k2 k3 k4 D bm bo m M R s t ht HW.out.1 HW.out.2 HSn.out _ hs).mono ?_); rintro e w' ⟨rfl, hb⟩))
  have hS : Below w.heap.size w w' ∧ w.heap.size < w'.heap.size ∧ w'.cell? ⟨w.heap.size, 0, none⟩ = some (.int .i64 k0) ∧ w'.cell? ⟨w.heap.size, 1, none⟩ = some (.int .i64 k1) ∧ w'.cell? ⟨w.heap.size, 2, none⟩ = some (.int .i64 k2) ∧ w'.cell? ⟨w.heap.size, 3, none⟩ = some (.int .i64 k3) ∧ w'.cell? ⟨w.heap.size, 4, none⟩ = some (.int .u32 k4) := by assumption
  obtain ⟨hB, -⟩ := hS
  go_wp2
  go_ret
  exact ⟨rfl, hB⟩
end Go.Proofs.Ytahhnfhnlffmpaa
