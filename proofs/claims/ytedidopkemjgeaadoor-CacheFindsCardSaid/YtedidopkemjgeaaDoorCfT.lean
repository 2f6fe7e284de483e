/-
  Ta, Tb, Tc, Tw, Tf, Tg as one.
-/
import Derived.Test.YtedidopkemjgeaaDoorP14
import Derived.Test.YtedidopkemjgeaaDoorP13
namespace Go.Proofs.YtedidopkemjgeaaDoor
open Go.ChangeShapes Go.WideShapes Go.ChangeAt Go.RowKit
set_option linter.unusedVariables false
set_option linter.unusedSimpArgs false
theorem take_no {base g n c : Nat} {lv gn : Nat → Bool} {vr ow : Nat → Int} (hn : n ≤ 256) (hno : Hid (∀ i, i < n → lv i = true)) (w : World) (h : w.ownsRow base 100 4 (.slice (some ⟨g, 0, none⟩) n c) n (flatS 4 (slW lv gn vr ow) n)) :
    Calls Tryd.prog 91 #[.slice (some ⟨g, 0, none⟩) n c] w fun e w' => e = .returned (.int .i64 (-1)) ∧ Below w.heap.size w w' := by
  have cell : ∀ i, i < n → ∀ q, q < 4 → w.cell? ⟨g, i * 4 + q, none⟩ = some (slW lv gn vr ow i q) := fun i hi q hq => by rw [h.cellAt (i * 4 + q) (mid_lt hi hq), flatS_at 4 _ n i q hi hq]
  have HC := Lib.hid cell
  clear h cell
  go_enter Tryd.func91, Tryd.ntmps91
  go_wp2_with fail
  go_loopw [3] (fun z wr => ∃ k : Nat, k ≤ n ∧ z = .int .i64 k ∧ wr = w) (fun z _ => n - (intOf z).toNat)
  case atStart => exact ⟨0, by omega, rfl, rfl⟩
  case round =>
    obtain ⟨k, hk, rfl, rfl⟩ := hrel
    have k0 : (0 : Int) ≤ k := by omega
    by_cases hkn : k < n
    · have k1 : (k : Int) < n := by omega
      have c0 := HC.out k (by omega) 0 (by decide)
      simp only [slW, if_true, if_false, Nat.add_zero, Nat.one_ne_zero] at c0
      rw [hno.out k hkn] at c0
      go_wp2_with fail
      go_roundw
      case rel => exact ⟨k + 1, by omega, by go_num, trivial⟩
      case measure => simp [intOf]; omega
    · obtain rfl : k = n := by omega
      have k1 : ¬ (k : Int) < k := by omega
      go_wp2_with fail
      go_ret
      exact ⟨rfl, Below.refl _ _⟩
theorem smakepage_full {base : Nat} {S : SyS} {d : SyD} (a : Option Addr) (hm : S.m ≤ 256) (hno : Hid (∀ i, i < S.m → d.lP i = true)) (w : World) (h : SyAt w base S d) :
    Calls Tryd.prog 71 #[.pointer (some ⟨S.x, 0, none⟩), .slice a 2 2] w fun e w' => e = .returned (.tuple #[.int .i64 0, .int .i64 106]) ∧ Below w.heap.size w w' := by
  have H := Lib.hid h
  have f1 := h.f1
  clear h
  go_enter Tryd.func71, Tryd.ntmps71
  go_wp2_with (first
    | (go_at_call 91; (with_reducible refine (take_no hm hno _ H.out.ps).mono ?_); rintro e w1 ⟨rfl, hb⟩; have HB := Lib.hid hb; clear hb))
  go_ret2
  exact ⟨rfl, HB.out⟩
theorem smakenode_full {base : Nat} {S : SyS} {d : SyD} (hn : S.n ≤ 256) (hno : Hid (∀ i, i < S.n → d.lN i = true)) (w : World) (h : SyAt w base S d) :
    Calls Tryd.prog 73 #[.pointer (some ⟨S.x, 0, none⟩), .slice none 0 0] w fun e w' => e = .returned (.tuple #[.int .i64 0, .int .i64 106]) ∧ Below w.heap.size w w' := by
  have H := Lib.hid h
  have f1 := h.f0
  clear h
  go_enter Tryd.func73, Tryd.ntmps73
  go_wp2_with fail
  go_loopw [6] (fun z wr => z = .int .i64 0 ∧ wr = w) (fun _ _ => 0)
  case atStart => exact ⟨rfl, rfl⟩
  case round =>
    obtain ⟨rfl, rfl⟩ := hrel
    go_wp2_with (first
      | (go_at_call 91; (with_reducible refine (take_no hn hno _ H.out.ns).mono ?_); rintro e w1 ⟨rfl, hb⟩; have HB := Lib.hid hb; clear hb))
    go_ret2
    exact ⟨rfl, HB.out⟩
/-- A small system in which only was made. -/
def td (nn np : Nat) (wN : Nat → Nat → Value) (wP : Nat → Nat → Int) : SyD := ⟨ltB nn, fun _ => false, fun _ => 0, fun _ => -1, ltB np, fun _ => false, fun _ => 0, fun _ => -1, wN, wP⟩
theorem td_page (nn np : Nat) (wN : Nat → Nat → Value) (wP wP' : Nat → Nat → Int) : { td nn np wN wP with lP := upd (ltB np) np true, wP := wP' } = td nn (np + 1) wN wP' := by
  unfold td
  simp only [ltB_s]
theorem td_node (nn np : Nat) (wN wN' : Nat → Nat → Value) (wP : Nat → Nat → Int) : { td nn np wN wP with lN := upd (ltB nn) nn true, wN := wN' } = td (nn + 1) np wN' wP := by
  unfold td
  simp only [ltB_s]
/-- Keys that a tree may have. -/
structure KeyT (y0 y1 y2 y3 y4 : Int) : Prop where
  k : y0 = 0 ∨ y0 = 2 ∨ y0 = 3
  i : 0 ≤ y1 ∧ y1 ≤ 255
  v : y2 = 0
  r : y3 = 0 ∨ y3 = 1 ∨ y3 = 4
  d : 0 ≤ y4 ∧ y4 ≤ 4
theorem KeyT.void : KeyT 0 0 0 0 0 := ⟨.inl rfl, by decide, rfl, .inl rfl, by decide⟩
/-- The nodes that were made have such keys. -/
def NodesT (wN : Nat → Nat → Value) (nn : Nat) : Prop := ∀ i, i < nn → ∀ j, j < 16 → ∃ y0 y1 y2 y3 y4, KAt (wN i) j y0 y1 y2 y3 y4 ∧ KeyT y0 y1 y2 y3 y4
set_option maxRecDepth 100000 in
set_option maxHeartbeats 4000000 in
theorem tree0_full {base : Nat} {S : SyS} {d : SyD} (a : Option Addr) (q c : Nat) (hq : q ≤ 100) (hm : S.m ≤ 256) (hno : Hid (∀ i, i < S.m → d.lP i = true)) (w : World) (h : SyAt w base S d) :
    Calls Tryd.prog 41 #[.pointer (some ⟨S.x, 0, none⟩), .int .i64 0, .slice a q c] w fun e w' => e = .returned (.agg #[.int .i64 0, .int .i64 0, .int .i64 0, .int .i64 0, .int .u32 0]) ∧ SyAt w' base S d ∧ SBelow S w w' := by
  have H : Hid (∀ o o', SyAt ((w.alloc o).alloc o') base S d) := Lib.hid (fun o o' => (h.below ((Below.refl _ _).alloc (Nat.le_refl _) _ : Below w.heap.size w (w.alloc o))).below ((Below.refl _ _).alloc (Nat.le_refl _) _))
  have HL : Hid (S.gP < w.heap.size ∧ S.bP < w.heap.size ∧ S.x < w.heap.size ∧ S.gN < w.heap.size ∧ S.bN < w.heap.size) := Lib.hid ⟨(h.ps.lt S.gP rfl).2, (h.pg.lt S.bP rfl).2, h.xl, (h.ns.lt S.gN rfl).2, (h.nd.lt S.bN rfl).2⟩
  have HB2 : Hid (∀ o o', Below w.heap.size w ((w.alloc o).alloc o')) := Lib.hid (fun o o' => (Below.trans ((Below.refl _ _).alloc (Nat.le_refl _) _) (Below.mono ((Below.refl _ _).alloc (Nat.le_refl _) _) (by simp))))
  have HKc := Lib.hid (fun o => ((KeyC.new w 0 0 0 0 0 29).below ((Below.refl _ _).alloc (Nat.le_refl _) _ : Below _ _ (World.alloc _ o))))
  have q0 : (0 : Int) ≤ q := by omega
  have q1 : (q : Int) < 4294967296 := by omega
  clear h
  go_enter Tryd.func41, Tryd.ntmps41
  go_wp2_with (first
    | (go_at_call 71; (with_reducible refine (smakepage_full (some ⟨w.heap.size + 1, 0, none⟩) hm hno _ (H.out _ _)).mono ?_); rintro e w1 ⟨rfl, hb⟩; have H1 := Lib.hid ((H.out _ _).below hb); have HB1 := Lib.hid ((HB2.out _ _).trans (hb.mono (HB2.out _ _).size)); have HK1 := Lib.hid ((HKc.out _).below hb); have z0 := HK1.out.c0; have z1 := HK1.out.c1; have z2 := HK1.out.c2; have z3 := HK1.out.c3; have z4 := HK1.out.c4; have f0 := HK1.out.fr 0; have f1 := HK1.out.fr 1; have f2 := HK1.out.fr 2; have f3 := HK1.out.fr 3; have f4 := HK1.out.fr 4; clear hb))
  have t := HK1.out.set 0 0 0 0 0
  have t0 := t.c0
  have t1 := t.c1
  have t2 := t.c2
  have t3 := t.c3
  have t4 := t.c4
  refine bodyPost_ret (v := .agg #[.int .i64 0, .int .i64 0, .int .i64 0, .int .i64 0, .int .u32 0]) (by simp [results, Tryd.results41, go_sem, t0, t1, t2, t3, t4]) rfl ⟨rfl, ?_, ?_⟩
  · exact sy_set5 H1.out w.heap.size (by have := HL.out; omega) _ _ _ _ _
  · exact (SBelow.of_below HB1.out).put5 w.heap.size (Nat.le_refl _) _ _ _ _ _
theorem tree0_any {base : Nat} {S : SyS} (a : Option Addr) (q c nn np : Nat) (wN : Nat → Nat → Value) (wP : Nat → Nat → Int) (hq : q ≤ 100) (hm : S.m ≤ 256) (hp : np ≤ S.m) (w : World) (h : SyAt w base S (td nn np wN wP)) :
    Calls Tryd.prog 41 #[.pointer (some ⟨S.x, 0, none⟩), .int .i64 0, .slice a q c] w fun e w' => ∃ y0 y1 y2 y3 y4 np' wP', e = .returned (.agg #[.int .i64 y0, .int .i64 y1, .int .i64 y2, .int .i64 y3, .int .u32 y4]) ∧ KeyT y0 y1 y2 y3 y4 ∧ np ≤ np' ∧ np' ≤ S.m ∧ SyAt w' base S (td nn np' wN wP') ∧ SBelow S w w' := by
  by_cases hf : np < S.m
  · refine (tree0_at a q c np hq hf hm (Lib.hid ⟨by simp [td, ltB], rfl⟩) (Lib.hid (by intro i hi; simp [td, ltB, hi])) 0 (Lib.hid rfl) w h).mono ?_
    rintro e w' ⟨rfl, hs, hb⟩
    rw [show (td nn np wN wP).lP = ltB np from rfl, td_page] at hs
    exact ⟨3, np, 0, 0, 0, np + 1, _, rfl, ⟨.inr (.inr rfl), by omega, rfl, .inl rfl, by decide⟩, by omega, by omega, hs, SBelow.of_pages hb⟩
  · refine (tree0_full a q c hq hm (Lib.hid (by intro i hi; simp [td, ltB]; omega)) w h).mono ?_
    rintro e w' ⟨rfl, hs, hb⟩
    exact ⟨0, 0, 0, 0, 0, np, wP, rfl, KeyT.void, Nat.le_refl _, hp, hs, hb⟩
end Go.Proofs.YtedidopkemjgeaaDoor
namespace Go.Proofs.YtedidopkemjgeaaDoor
open Go.ChangeShapes Go.WideShapes Go.ChangeAt Go.RowKit
set_option linter.unusedVariables false
set_option linter.unusedSimpArgs false
/-- Numbers that are read, in no row of the system. -/
def LI (S : SyS) (w : World) (a : Option Addr) (L : Nat) (f : Nat → Int) : Prop := ∀ j, j < L → ∃ ad : Addr, a = some ad ∧ ad.block < w.heap.size ∧ (ad.block ≠ S.gN ∧ ad.block ≠ S.gP ∧ ad.block ≠ S.bN ∧ ad.block ≠ S.bP) ∧ w.cell? (ad.add j) = some (.int .i64 (f j))
theorem LI.same {S : SyS} {w w' : World} {a : Option Addr} {L : Nat} {f : Nat → Int} (h : LI S w a L f) (hs : SBelow S w w') : LI S w' a L f := fun j hj => by
  obtain ⟨ad, h1, h2, h3, h4⟩ := h j hj
  refine ⟨ad, h1, Nat.lt_of_lt_of_le h2 hs.2.2.2.1, h3, ?_⟩
  rw [← h4]
  exact World.cell?_of_block (by rw [add_block']; exact hs.2.2.2.2 _ h2 h3.1 h3.2.1 h3.2.2.1 h3.2.2.2)
theorem LI.drop {S : SyS} {w : World} {ad : Addr} {L : Nat} {f : Nat → Int} (h : LI S w (some ad) L f) (k : Nat) : LI S w (some (ad.add k)) (L - k) (fun j => f (k + j)) := fun j hj => by
  obtain ⟨ad', h1, h2, h3, h4⟩ := h (k + j) (by omega)
  injection h1 with h1
  subst h1
  exact ⟨ad.add k, rfl, by rw [add_block']; exact h2, by rw [add_block']; exact h3, by rw [Addr.add_add]; exact h4⟩
/-- What a tree of some height leaves. -/
def TreeOk (S : SyS) (base h : Nat) : Prop := ∀ (hi : Int), hi = h → ∀ (a : Option Addr) (L c nn np : Nat) (f : Nat → Int) (wN : Nat → Nat → Value) (wP : Nat → Nat → Int) (w : World), L ≤ 20 → L ≤ c → SyAt w base S (td nn np wN wP) → nn ≤ S.n → np ≤ S.m → NodesT wN nn → LI S w a L f →
  Calls Tryd.prog 41 #[.pointer (some ⟨S.x, 0, none⟩), .int .i64 hi, .slice a L c] w fun e w' => ∃ y0 y1 y2 y3 y4 nn' np' wN' wP', e = .returned (.agg #[.int .i64 y0, .int .i64 y1, .int .i64 y2, .int .i64 y3, .int .u32 y4]) ∧ KeyT y0 y1 y2 y3 y4 ∧ nn ≤ nn' ∧ nn' ≤ S.n ∧ np' ≤ S.m ∧ SyAt w' base S (td nn' np' wN' wP') ∧ NodesT wN' nn' ∧ SBelow S w w'
theorem tree_0 {S : SyS} {base : Nat} (hm : S.m ≤ 256) : TreeOk S base 0 := by
  intro hi hh a L c nn np f wN wP w hL hc h hn hp hN hl
  rw [hh]
  refine (tree0_any a L c nn np wN wP (by omega) hm hp w h).mono ?_
  rintro e w' ⟨y0, y1, y2, y3, y4, np', wP', rfl, hk, _, h2, h3, h4⟩
  exact ⟨y0, y1, y2, y3, y4, nn, np', wN, wP', rfl, hk, Nat.le_refl _, hn, h2, h3, hN, h4⟩
theorem NodesT.set {wN : Nat → Nat → Value} {nn : Nat} (h : NodesT wN nn) (i s : Nat) {y0 y1 y2 y3 y4 : Int} (hk : KeyT y0 y1 y2 y3 y4) : NodesT (updS wN i (s * 5) (k5 y0 y1 y2 y3 y4)) nn := fun q hq j hj => by
  have e : updS wN i (s * 5) (k5 y0 y1 y2 y3 y4) = updV wN i (s * 5) (k5 y0 y1 y2 y3 y4) := rfl
  rw [e]
  by_cases hx : q = i ∧ j = s
  · obtain ⟨rfl, rfl⟩ := hx
    exact ⟨_, _, _, _, _, updV_key wN q j y0 y1 y2 y3 y4, hk⟩
  · obtain ⟨x0, x1, x2, x3, x4, h1, h2⟩ := h q hq j hj
    exact ⟨x0, x1, x2, x3, x4, updV_rest wN i s q j y0 y1 y2 y3 y4 hx h1, h2⟩
theorem zero_key (W : Nat → Nat → Value) (n i : Nat) (hi : i < 16) : KAt (updS W n 0 zs80 n) i 0 0 0 0 0 := by
  have h : ∀ q, q < 5 → updS W n 0 zs80 n (i * 5 + q) = kval q 0 := fun q hq => by
    have h1 := updS_in W n 0 zs80 (i * 5 + q) (by rw [zs80_len]; omega)
    rw [Nat.zero_add] at h1
    rw [← zc_q i q hq]
    have h2 : zs80[i * 5 + q]? = some (zc (i * 5 + q)) := by unfold zs80; rw [List.getElem?_map, List.getElem?_range (by omega)]; rfl
    rw [h2] at h1
    exact Option.some.inj h1
  exact ⟨h 0 (by decide), h 1 (by decide), h 2 (by decide), h 3 (by decide), h 4 (by decide)⟩
theorem NodesT.more {wN : Nat → Nat → Value} {nn : Nat} (h : NodesT wN nn) : NodesT (updS wN nn 0 zs80) (nn + 1) := fun q hq j hj => by
  by_cases e : q = nn
  · subst e; exact ⟨0, 0, 0, 0, 0, zero_key wN q j hj, KeyT.void⟩
  · obtain ⟨x0, x1, x2, x3, x4, ⟨h0, h1, h2, h3, h4⟩, hk⟩ := h q (by omega) j hj
    have hx : ∀ b, updS wN nn 0 zs80 q b = wN q b := fun b => updS_other _ _ _ _ _ _ (fun e' => e e'.1)
    exact ⟨x0, x1, x2, x3, x4, ⟨(hx _).trans h0, (hx _).trans h1, (hx _).trans h2, (hx _).trans h3, (hx _).trans h4⟩, hk⟩
theorem KeyC.set4 {w : World} {b : Nat} {k0 k1 k2 k3 k4 : Int} (h : KeyC w b k0 k1 k2 k3 k4) (z : Int) : KeyC (w.setCell ⟨b, 4, none⟩ (.int .u32 z)) b k0 k1 k2 k3 z := by
  refine ⟨by simpa using h.lt, ?_, ?_, ?_, ?_, ?_, fun j => by simpa using h.fr j⟩
  · rw [World.cell?_setCell_other _ _ _ _ (by simp)]; exact h.c0
  · rw [World.cell?_setCell_other _ _ _ _ (by simp)]; exact h.c1
  · rw [World.cell?_setCell_other _ _ _ _ (by simp)]; exact h.c2
  · rw [World.cell?_setCell_other _ _ _ _ (by simp)]; exact h.c3
  · exact World.cell?_setCell_same _ _ _ h.c4
set_option maxRecDepth 100000 in
set_option maxHeartbeats 16000000 in
theorem tree_s {S : SyS} {base H : Nat} (hH : H ≤ 3) (hSn : Hid (S.n ≤ 256 ∧ S.m ≤ 256)) (IH : Hid (TreeOk S base H)) (I0 : Hid (TreeOk S base 0)) : TreeOk S base (H + 1) := by
  intro ht hht a L c nn np f wN wP w hL hc h hn hp hN hl
  have H0 := Lib.hid h
  have HLs := Lib.hid (And.intro hL hc)
  have HLI := Lib.hid hl
  have HNT := Lib.hid hN
  have HNP := Lib.hid (And.intro hn hp)
  have HX : Hid (S.gP < w.heap.size ∧ S.bP < w.heap.size ∧ S.x < w.heap.size ∧ S.gN < w.heap.size ∧ S.bN < w.heap.size) := Lib.hid ⟨(h.ps.lt S.gP rfl).2, (h.pg.lt S.bP rfl).2, h.xl, (h.ns.lt S.gN rfl).2, (h.nd.lt S.bN rfl).2⟩
  have HT : Hid (ht = (H : Int) + 1) := Lib.hid (by rw [hht]; push_cast; rfl)
  have t1 : (1 : Int) ≤ ht := by have := HT.out; omega
  have t4 : ht ≤ 4 := by have := HT.out; omega
  obtain ⟨rb, hrb⟩ : ∃ rb, Hid (w.heap.size = rb) := ⟨_, Lib.hid rfl⟩
  clear h hL hc hl hN hn hp hht
  go_enter Tryd.func41, Tryd.ntmps41
  go_upto_region 1 with fail
  obtain ⟨w1, hw1⟩ : ∃ w1, w1 = w.alloc (.cells #[.int .i64 0, .int .i64 0, .int .i64 0, .int .i64 0, .int .u32 0] 29 (0, 0)) := ⟨_, rfl⟩
  rw [← hw1]
  have H1 : Hid (SyAt w1 base S (td nn np wN wP)) := Lib.hid (by rw [hw1]; exact H0.out.below ((Below.refl _ _).alloc (Nat.le_refl _) _))
  have B1 : Hid (SBelow S w w1) := Lib.hid (by rw [hw1]; exact SBelow.of_below ((Below.refl _ _).alloc (Nat.le_refl _) _))
  have HK1 : Hid (KeyC w1 w.heap.size 0 0 0 0 0) := Lib.hid (by rw [hw1]; exact KeyC.new _ _ _ _ _ _ _)
  rw [hrb.out] at HK1 ⊢
  have HRo : Hid (S.x ≠ rb ∧ S.gN ≠ rb ∧ S.gP ≠ rb ∧ S.bN ≠ rb ∧ S.bP ≠ rb) := Lib.hid (by rw [← hrb.out]; have := HX.out; omega)
  clear hw1
  by_cases hfull : nn < S.n
  rotate_left
  · have z0 := HK1.out.c0
    have z1 := HK1.out.c1
    have z2 := HK1.out.c2
    have z3 := HK1.out.c3
    have z4 := HK1.out.c4
    clear z0 z1 z2 z3 z4
    go_wp2_with (first
      | (go_at_call 73; (with_reducible refine (smakenode_full hSn.out.1 (Lib.hid (by intro i hi; simp [td, ltB]; omega)) _ H1.out).mono ?_); rintro e w2 ⟨rfl, hb⟩; have H2 := Lib.hid (H1.out.below hb); have HK2 := Lib.hid (HK1.out.below hb); have B2 := Lib.hid (B1.out.trans (SBelow.of_below hb)); have z0 := HK2.out.c0; have z1 := HK2.out.c1; have z2 := HK2.out.c2; have z3 := HK2.out.c3; have z4 := HK2.out.c4; have f0 := HK2.out.fr 0; have f1 := HK2.out.fr 1; have f2 := HK2.out.fr 2; have f3 := HK2.out.fr 3; have f4 := HK2.out.fr 4; clear hb))
    have t := HK2.out.set 0 0 0 0 0
    have t0 := t.c0
    have t1' := t.c1
    have t2 := t.c2
    have t3 := t.c3
    have t4' := t.c4
    refine bodyPost_ret (v := .agg #[.int .i64 0, .int .i64 0, .int .i64 0, .int .i64 0, .int .u32 0]) (by simp [results, Tryd.results41, go_sem, t0, t1', t2, t3, t4']) rfl ⟨0, 0, 0, 0, 0, nn, np, wN, wP, rfl, KeyT.void, Nat.le_refl _, HNP.out.1, HNP.out.2, ?_, HNT.out, ?_⟩
    · exact sy_set5 H2.out rb HRo.out _ _ _ _ _
    · exact B2.out.put5 rb (Nat.le_of_eq hrb.out) _ _ _ _ _
  · go_upto_region 9 with (first
      | (go_at_call 73; (with_reducible refine (smakenode0 nn hfull hSn.out.1 (Lib.hid ⟨by simp [td, ltB], rfl⟩) (Lib.hid (by intro i hi; simp [td, ltB, hi])) _ H1.out).mono ?_); rintro e w2 ⟨rfl, hs, hp⟩; rw [show (td nn np wN wP).lN = ltB nn from rfl, td_node] at hs; have H2 := Lib.hid hs; have P2 := Lib.hid (B1.out.trans (SBelow.of_nodes hp)); have HK2 := Lib.hid (HK1.out.pbelow hp (fun e => HRo.out.2.1 e.symm) (fun e => HRo.out.2.2.2.1 e.symm)); clear hs hp))
    have HNT2 : Hid (NodesT (updS wN nn 0 zs80) (nn + 1)) := Lib.hid HNT.out.more
    have HNn := Lib.hid hfull
    have n0 : (0 : Int) ≤ nn := by omega
    clear H1 HK1 hfull
    go_wp2_with fail
    go_loopw [11] (fun z wr => ∃ (k nn' np' : Nat) (wN' : Nat → Nat → Value) (wP' : Nat → Nat → Int), k ≤ 4 ∧ z = .int .i64 ((2 * k : Nat) : Int) ∧ SyAt wr base S (td nn' np' wN' wP') ∧ nn + 1 ≤ nn' ∧ nn' ≤ S.n ∧ np' ≤ S.m ∧ NodesT wN' nn' ∧ SBelow S w wr ∧ KeyC wr rb 0 0 0 0 0) (fun z _ => 20 - (intOf z).toNat)
    case atStart => exact ⟨0, nn + 1, np, _, wP, by omega, rfl, H2.out, Nat.le_refl _, HNn.out, HNP.out.2, HNT2.out, P2.out, HK2.out⟩
    case round =>
      obtain ⟨k, nn', np', wN', wP', hk, rfl, hs, hnn1, hnn2, hnp, hnt, hsb, hkr⟩ := hrel
      have HR := Lib.hid hs
      have HN' := Lib.hid (And.intro hnn1 (And.intro hnn2 hnp))
      have HTN := Lib.hid hnt
      have HSB := Lib.hid hsb
      have HKR := Lib.hid hkr
      have HLr := Lib.hid (HLI.out.same hsb)
      obtain ⟨q, hq⟩ : ∃ q, Hid (2 * k = q) := ⟨_, Lib.hid rfl⟩
      rw [hq.out]
      have q0 : (0 : Int) ≤ q := by omega
      have q9 : (q : Int) ≤ 8 := by have := hq.out; omega
      clear hs hnn1 hnn2 hnp hnt hsb hkr H2 HK2
      by_cases hlt : q + 1 < L ∧ q < 8
      · have q1 : (q : Int) + 1 < L := by omega
        have q8 : (q : Int) < 8 := by omega
        have qL : (q : Int) < L := by omega
        obtain ⟨ad, rfl, had, hane, c0⟩ := HLr.out q (by omega)
        obtain ⟨ad', had', _, _, c1⟩ := HLr.out (q + 1) hlt.1
        injection had' with had'
        subst had'
        obtain ⟨s, hs15, hsv⟩ := and15_in (f q)
        obtain ⟨y, hy⟩ : ∃ y, f (q + 1) = y := ⟨_, rfl⟩
        rw [hy] at c1
        obtain ⟨wt, ew⟩ : ∃ wt, y.tmod 6 = wt := ⟨_, rfl⟩
        have HWt : Hid (wt ≤ 5) := Lib.hid (by rw [← ew]; have := Int.tmod_lt_of_pos y (show (0 : Int) < 6 by decide); omega)
        have HSv := Lib.hid hsv
        have HS15 := Lib.hid hs15
        obtain ⟨fq, hfq⟩ : ∃ fq, f q = fq := ⟨_, rfl⟩
        rw [hfq] at c0 hsv HSv
        have HQL := Lib.hid hlt
        have s0 : (0 : Int) ≤ s := by omega
        have s15 : (s : Int) < 16 := by omega
        have eh : ht - 1 = (H : Int) := by have := HT.out; omega
        clear hy hs15 hlt hane had
        have e1 : ad.add (q + 1) = ⟨ad.block, ad.off + (q + 1), none⟩ := by unfold Addr.add; rw [if_neg (by omega)]
        rw [e1] at c1
        have HLd : Hid (LI S wr (some ⟨ad.block, ad.off + (q + 1), none⟩) (L - (q + 1)) (fun j => f (q + 1 + j))) := Lib.hid (by rw [← e1]; exact HLr.out.drop (q + 1))
        have HLs2 : Hid (L - (q + 1) ≤ 20 ∧ L - (q + 1) ≤ c - (q + 1)) := Lib.hid (by have := HLs.out; omega)
        have hsl : ∀ W, (Instr.sliceAt 22 (.slice (some ad) L c) (some (.int .i64 ((q : Int) + 1))) none none).run Tryd.prog W = .ok (.slice (some ⟨ad.block, ad.off + (q + 1), none⟩) (L - (q + 1)) (c - (q + 1))) W := fun W => by
          have hel : Tryd.prog.elem 22 = 3 := by kernel_rfl
          have ht : Tryd.prog.underlying 22 = some (.slice (Tryd.prog.elem 22)) := by rw [hel]; exact Tryd.underlying22
          have e2 : ((q : Int) + 1).toNat = q + 1 := by omega
          have hsz : (sizeOf 3).run Tryd.prog W = .ok 1 W := by kernel_rfl
          rw [run_sliceAt_slice W _ _ _ _ _ ht, run_slice_l W _ _ _ _ ht .i64 ((q : Int) + 1) (by omega) (by omega), hel, hsz, Result.andThen, e2]
          unfold sliced
          rw [if_neg (by have := HLs.out; omega), Nat.mul_one]
          show Result.ok (Value.slice (some (ad.add (q + 1))) _ _) W = _
          rw [e1]
        clear e1
        go_upto_region 15 with fail
        clear c0 c1 ew
        by_cases hw1 : wt < 1
        · have b1 : (wt == 1) = false := by simp; omega
          have b4 : (wt == 4) = false := by simp; omega
          go_wp2_with fail
          go_roundw
          case rel => exact ⟨k + 1, nn', np', wN', wP', by have := hq.out; have := HQL.out; omega, (by congr 1; have := hq.out; omega), HR.out, HN'.out.1, HN'.out.2.1, HN'.out.2.2, HTN.out, HSB.out, HKR.out⟩
          case measure => simp [intOf]; have := hq.out; have := HQL.out; omega
        · have h5 : wt = 1 ∨ wt = 2 ∨ wt = 3 ∨ wt = 4 ∨ wt = 5 := by have := HWt.out; omega
          rcases h5 with rfl | rfl | rfl | rfl | rfl
          · have HTO := Lib.hid (I0.out 0 rfl)
            go_upto_region 19 with (first
              | (go_at_call 41; (with_reducible refine (HTO.out _ _ _ _ _ _ _ _ _ HLs2.out.1 HLs2.out.2 HR.out HN'.out.2.1 HN'.out.2.2 HTN.out HLd.out).mono ?_); rintro e w3 ⟨y0, y1, y2, y3, y4, nn3, np3, wN3, wP3, rfl, hkt, g1, g2, g3, hs3, hn3, hb3⟩; have H3 := Lib.hid hs3; have HKT := Lib.hid hkt; have HG3 := Lib.hid (And.intro g1 (And.intro g2 g3)); have HTN3 := Lib.hid hn3; have HSB3 := Lib.hid (HSB.out.trans hb3); have HKR3 := Lib.hid (KeyC.same' HKR.out hb3.2.2.2.1 (hb3.2.2.2.2 rb HKR.out.lt HRo.out.2.1.symm HRo.out.2.2.1.symm HRo.out.2.2.2.1.symm HRo.out.2.2.2.2.symm)); clear hkt g1 g2 g3 hs3 hn3 hb3 hsl))
            obtain ⟨w4, hw4⟩ : ∃ w4, w4 = w3.alloc (.cells #[.int .i64 y0, .int .i64 y1, .int .i64 y2, .int .i64 y3, .int .u32 y4] 29 (0, 0)) := ⟨_, rfl⟩
            rw [← hw4]
            have H4 : Hid (SyAt w4 base S (td nn3 np3 wN3 wP3)) := Lib.hid (by rw [hw4]; exact H3.out.below ((Below.refl _ _).alloc (Nat.le_refl _) _))
            have HX4 : Hid (KeyC w4 w3.heap.size y0 y1 y2 y3 y4) := Lib.hid (by rw [hw4]; exact KeyC.new _ _ _ _ _ _ _)
            have HKR4 : Hid (KeyC w4 rb 0 0 0 0 0) := Lib.hid (by rw [hw4]; exact HKR3.out.below ((Below.refl _ _).alloc (Nat.le_refl _) _))
            have HSB4 : Hid (SBelow S w w4) := Lib.hid (HSB3.out.trans (by rw [hw4]; exact SBelow.of_below ((Below.refl _ _).alloc (Nat.le_refl _) _)))
            have HBx4 : Hid (Below w3.heap.size w4 w4) := Lib.hid (Below.refl _ _)
            obtain ⟨xb, hxb⟩ : ∃ xb, Hid (w3.heap.size = xb) := ⟨_, Lib.hid rfl⟩
            rw [hxb.out] at HX4 ⊢
            have HXne : Hid (S.x ≠ xb ∧ S.gN ≠ xb ∧ S.gP ≠ xb ∧ S.bN ≠ xb ∧ S.bP ≠ xb ∧ rb ≠ xb ∧ w.heap.size ≤ xb) := Lib.hid (by rw [← hxb.out]; have h1 := (H3.out.nd.lt S.bN rfl).2; have h2 := H3.out.xl; have h3 := (H3.out.ns.lt S.gN rfl).2; have h4 := (H3.out.ps.lt S.gP rfl).2; have h5 := (H3.out.pg.lt S.bP rfl).2; have h6 := HKR3.out.lt; have h7 := HSB3.out.2.2.2.1; omega)
            clear hw4 hxb H3 HKR3 HSB3
            have x0 := HX4.out.c0
            have x1 := HX4.out.c1
            have x2 := HX4.out.c2
            have x3 := HX4.out.c3
            have x4 := HX4.out.c4
            have xf3 := HX4.out.fr 3
            have xf4 := HX4.out.fr 4
            go_upto_region 25 with fail
            clear x0 x1 x2 x3 x4 xf3 xf4
            have HD : Hid (SyAt w4.drew base S (td nn3 np3 wN3 wP3)) := Lib.hid (H4.out.below (Below.refl _ _).drew)
            have HXD : Hid (KeyC w4.drew xb y0 y1 y2 y3 y4) := Lib.hid (HX4.out.below (Below.refl _ _).drew)
            have HnS : Hid (nn < S.n ∧ nn < nn3) := Lib.hid (by have := HG3.out; have := HN'.out; omega)
            have HTh : Hid (World.there w4.drew S.bN (nn * 80 + s * 5) 5) := Lib.hid (fun j hj => by
              have h1 := HD.out.nkey nn (s * 5 + j) HnS.out.1 (by have := HS15.out; omega)
              rw [← Nat.add_assoc] at h1
              exact ⟨by rw [h1]; rfl, HD.out.nd.frozenAt _⟩)
            have b0 : (nn : Int) < S.n := by have := HnS.out.1; omega
            have sE := HSv.out
            refine wp_region_noPanic ?_
            refine wp_region_held_drew (S := fun w' => World.cell? w' ⟨S.x, 6, none⟩ = some (.slice (some ⟨S.bN, 0, none⟩) S.n S.n) ∧ World.cell? w' ⟨xb, 0, none⟩ = some (.int .i64 y0) ∧ World.cell? w' ⟨xb, 1, none⟩ = some (.int .i64 y1) ∧ World.cell? w' ⟨xb, 2, none⟩ = some (.int .i64 y2) ∧ World.cell? w' ⟨xb, 3, none⟩ = some (.int .i64 y3) ∧ World.cell? w' ⟨xb, 4, none⟩ = some (.int .u32 y4)) (by kernel_rfl) ⟨HD.out.f6, HXD.out.c0, HXD.out.c1, HXD.out.c2, HXD.out.c3, HXD.out.c4⟩ (fun hHeld => ?_)
            refine wpAnyH_take (i := 0) (v := ?_) (by rfl) (by kernel_rfl) (by kernel_rfl) (by kernel_rfl) (fun _ _ _ h => h) (Or.inl ⟨by kernel_rfl, ?_⟩) (by assumption) ?_; rotate_left 1; (focus (intro w hSw; (try dsimp only at hSw); simp only [List.getElem_toArray, List.getElem_cons_succ, List.getElem_cons_zero]; all_goals go_simp; all_goals (try with_reducible rfl))); (try simp only [Act.put, List.getElem_toArray, List.getElem_cons_succ, List.getElem_cons_zero, List.setIfInBounds_toArray, List.set_cons_zero, List.set_cons_succ])
            refine wpAnyH_take (i := 1) (v := ?_) (by rfl) (by kernel_rfl) (by kernel_rfl) (by kernel_rfl) (fun _ _ _ h => h) (Or.inl ⟨by kernel_rfl, ?_⟩) (by assumption) ?_; rotate_left 1; (focus (intro w hSw; (try dsimp only at hSw); simp only [List.getElem_toArray, List.getElem_cons_succ, List.getElem_cons_zero]; all_goals go_simp; all_goals (try with_reducible rfl))); (try simp only [Act.put, List.getElem_toArray, List.getElem_cons_succ, List.getElem_cons_zero, List.setIfInBounds_toArray, List.set_cons_zero, List.set_cons_succ])
            refine wpAnyH_take (i := 2) (v := ?_) (by rfl) (by kernel_rfl) (by kernel_rfl) (by kernel_rfl) (fun _ _ _ h => h) (Or.inl ⟨by kernel_rfl, ?_⟩) (by assumption) ?_; rotate_left 1; (focus (intro w hSw; (try dsimp only at hSw); simp only [List.getElem_toArray, List.getElem_cons_succ, List.getElem_cons_zero]; all_goals go_simp; all_goals (try with_reducible rfl))); (try simp only [Act.put, List.getElem_toArray, List.getElem_cons_succ, List.getElem_cons_zero, List.setIfInBounds_toArray, List.set_cons_zero, List.set_cons_succ])
            refine wpAnyH_take (i := 3) (v := ?_) (by rfl) (by kernel_rfl) (by kernel_rfl) (by kernel_rfl) (fun _ _ _ h => h) (Or.inl ⟨by kernel_rfl, ?_⟩) (by assumption) ?_; rotate_left 1; (focus (intro w hSw; (try dsimp only at hSw); simp only [List.getElem_toArray, List.getElem_cons_succ, List.getElem_cons_zero]; all_goals go_simp; all_goals (try with_reducible rfl))); (try simp only [Act.put, List.getElem_toArray, List.getElem_cons_succ, List.getElem_cons_zero, List.setIfInBounds_toArray, List.set_cons_zero, List.set_cons_succ])
            refine wpAnyH_take (i := 4) (v := ?_) (by rfl) (by kernel_rfl) (by kernel_rfl) (by kernel_rfl) (fun _ _ _ h => h) (Or.inl ⟨by kernel_rfl, ?_⟩) (by assumption) ?_; rotate_left 1; (focus (intro w hSw; (try dsimp only at hSw); simp only [List.getElem_toArray, List.getElem_cons_succ, List.getElem_cons_zero]; all_goals go_simp; all_goals (try with_reducible rfl))); (try simp only [Act.put, List.getElem_toArray, List.getElem_cons_succ, List.getElem_cons_zero, List.setIfInBounds_toArray, List.set_cons_zero, List.set_cons_succ])
            refine wpAnyH_take (i := 5) (v := ?_) (by rfl) (by kernel_rfl) (by kernel_rfl) (by kernel_rfl) (fun _ _ _ h => h) (Or.inl ⟨by kernel_rfl, ?_⟩) (by assumption) ?_; rotate_left 1; (focus (intro w hSw; (try dsimp only at hSw); simp only [List.getElem_toArray, List.getElem_cons_succ, List.getElem_cons_zero]; all_goals go_simp; all_goals (try with_reducible rfl))); (try simp only [Act.put, List.getElem_toArray, List.getElem_cons_succ, List.getElem_cons_zero, List.setIfInBounds_toArray, List.set_cons_zero, List.set_cons_succ])
            refine wpAnyH_take (i := 6) (v := ?_) (by rfl) (by kernel_rfl) (by kernel_rfl) (by kernel_rfl) (fun _ _ _ h => h) (Or.inl ⟨by kernel_rfl, ?_⟩) (by assumption) ?_; rotate_left 1; (focus (intro w hSw; (try dsimp only at hSw); simp only [List.getElem_toArray, List.getElem_cons_succ, List.getElem_cons_zero]; all_goals go_simp; all_goals (try with_reducible rfl))); (try simp only [Act.put, List.getElem_toArray, List.getElem_cons_succ, List.getElem_cons_zero, List.setIfInBounds_toArray, List.set_cons_zero, List.set_cons_succ])
            refine wpAnyH_take (i := 7) (v := ?_) (by rfl) (by kernel_rfl) (by kernel_rfl) (by kernel_rfl) (fun _ _ _ h => h) (Or.inl ⟨by kernel_rfl, ?_⟩) (by assumption) ?_; rotate_left 1; (focus (intro w hSw; (try dsimp only at hSw); simp only [List.getElem_toArray, List.getElem_cons_succ, List.getElem_cons_zero]; all_goals go_simp; all_goals (try with_reducible rfl))); (try simp only [Act.put, List.getElem_toArray, List.getElem_cons_succ, List.getElem_cons_zero, List.setIfInBounds_toArray, List.set_cons_zero, List.set_cons_succ])
            refine wpAnyH_take (i := 8) (v := ?_) (by rfl) (by kernel_rfl) (by kernel_rfl) (by kernel_rfl) (fun _ _ _ h => h) (Or.inl ⟨by kernel_rfl, ?_⟩) (by assumption) ?_; rotate_left 1; (focus (intro w hSw; (try dsimp only at hSw); simp only [List.getElem_toArray, List.getElem_cons_succ, List.getElem_cons_zero]; all_goals go_simp; all_goals (try with_reducible rfl))); (try simp only [Act.put, List.getElem_toArray, List.getElem_cons_succ, List.getElem_cons_zero, List.setIfInBounds_toArray, List.set_cons_zero, List.set_cons_succ])
            refine wpAnyH_ready (rs := [9]) (by kernel_rfl) (by simp) ?_; refine AllReadyH.cons (by rfl) (fun K hK => ?_) AllReadyH.nil; rw [if_pos (by kernel_rfl)]; simp only [List.getElem_toArray, List.getElem_cons_succ, List.getElem_cons_zero]
            refine wp_store_mid _ _ _ (by rfl) S.bN (nn * 80 + s * 5) #[.int .i64 y0, .int .i64 y1, .int .i64 y2, .int .i64 y3, .int .u32 y4] (by rfl) (by rfl) HTh.out infoKey5 (by simp [Value.oneCell']) ?_
            have hs5 := HD.out.keys nn (s * 5) HnS.out.1 (k5 y0 y1 y2 y3 y4) (by have := HS15.out; simp [k5]; omega)
            have H5 := Lib.hid hs5.1
            have HX5 := Lib.hid (HXD.out.same hs5.2.size (hs5.2.block xb HXD.out.lt (fun e => HXne.out.2.2.2.1 (by injection e with e; exact e.symm))))
            have HKR5 := Lib.hid ((HKR4.out.below (Below.refl _ _).drew).same hs5.2.size (hs5.2.block rb (HKR4.out.below (Below.refl _ _).drew).lt (fun e => HRo.out.2.2.2.1 (by injection e with e; exact e.symm))))
            have HSB5 := Lib.hid ((HSB4.out.trans (SBelow.of_below (Below.refl _ _).drew)).trans (SBelow.of_nodes (PBelow.of (B := S.gN) hs5.2 (.inr rfl))))
            have HTN5 := Lib.hid (HTN3.out.set nn s HKT.out)
            clear hs5
            refine hK.out _ (World.setCells w4.drew S.bN (nn * 80 + s * 5) (k5 y0 y1 y2 y3 y4)) ⟨H5.out.f6, HX5.out.c0, HX5.out.c1, HX5.out.c2, HX5.out.c3, HX5.out.c4⟩ (fun hHeld => ?_)
            clear hK K
            (try simp only [Act.put, List.getElem_toArray, List.getElem_cons_succ, List.getElem_cons_zero, List.setIfInBounds_toArray, List.set_cons_zero, List.set_cons_succ])
            refine wpAnyH_done (by kernel_rfl) ?_ _
            refine NoPanic.normal ?_
            go_wp2_with fail
            go_roundw
            case rel => exact ⟨k + 1, nn3, np3, _, _, by have := hq.out; have := HQL.out; omega, (by congr 1; have := hq.out; omega), H5.out, by have := HG3.out; have := HN'.out; omega, HG3.out.2.1, HG3.out.2.2, HTN5.out, HSB5.out, HKR5.out⟩
            case measure => simp [intOf]; have := hq.out; have := HQL.out; omega
          · have HTO := Lib.hid (IH.out (H : Int) rfl)
            go_upto_region 19 with (first
              | (go_at_call 41; (with_reducible refine (HTO.out _ _ _ _ _ _ _ _ _ HLs2.out.1 HLs2.out.2 HR.out HN'.out.2.1 HN'.out.2.2 HTN.out HLd.out).mono ?_); rintro e w3 ⟨y0, y1, y2, y3, y4, nn3, np3, wN3, wP3, rfl, hkt, g1, g2, g3, hs3, hn3, hb3⟩; have H3 := Lib.hid hs3; have HKT := Lib.hid hkt; have HG3 := Lib.hid (And.intro g1 (And.intro g2 g3)); have HTN3 := Lib.hid hn3; have HSB3 := Lib.hid (HSB.out.trans hb3); have HKR3 := Lib.hid (KeyC.same' HKR.out hb3.2.2.2.1 (hb3.2.2.2.2 rb HKR.out.lt HRo.out.2.1.symm HRo.out.2.2.1.symm HRo.out.2.2.2.1.symm HRo.out.2.2.2.2.symm)); clear hkt g1 g2 g3 hs3 hn3 hb3 hsl))
            obtain ⟨w4, hw4⟩ : ∃ w4, w4 = w3.alloc (.cells #[.int .i64 y0, .int .i64 y1, .int .i64 y2, .int .i64 y3, .int .u32 y4] 29 (0, 0)) := ⟨_, rfl⟩
            rw [← hw4]
            have H4 : Hid (SyAt w4 base S (td nn3 np3 wN3 wP3)) := Lib.hid (by rw [hw4]; exact H3.out.below ((Below.refl _ _).alloc (Nat.le_refl _) _))
            have HX4 : Hid (KeyC w4 w3.heap.size y0 y1 y2 y3 y4) := Lib.hid (by rw [hw4]; exact KeyC.new _ _ _ _ _ _ _)
            have HKR4 : Hid (KeyC w4 rb 0 0 0 0 0) := Lib.hid (by rw [hw4]; exact HKR3.out.below ((Below.refl _ _).alloc (Nat.le_refl _) _))
            have HSB4 : Hid (SBelow S w w4) := Lib.hid (HSB3.out.trans (by rw [hw4]; exact SBelow.of_below ((Below.refl _ _).alloc (Nat.le_refl _) _)))
            have HBx4 : Hid (Below w3.heap.size w4 w4) := Lib.hid (Below.refl _ _)
            obtain ⟨xb, hxb⟩ : ∃ xb, Hid (w3.heap.size = xb) := ⟨_, Lib.hid rfl⟩
            rw [hxb.out] at HX4 ⊢
            have HXne : Hid (S.x ≠ xb ∧ S.gN ≠ xb ∧ S.gP ≠ xb ∧ S.bN ≠ xb ∧ S.bP ≠ xb ∧ rb ≠ xb ∧ w.heap.size ≤ xb) := Lib.hid (by rw [← hxb.out]; have h1 := (H3.out.nd.lt S.bN rfl).2; have h2 := H3.out.xl; have h3 := (H3.out.ns.lt S.gN rfl).2; have h4 := (H3.out.ps.lt S.gP rfl).2; have h5 := (H3.out.pg.lt S.bP rfl).2; have h6 := HKR3.out.lt; have h7 := HSB3.out.2.2.2.1; omega)
            clear hw4 hxb H3 HKR3 HSB3
            have x0 := HX4.out.c0
            have x1 := HX4.out.c1
            have x2 := HX4.out.c2
            have x3 := HX4.out.c3
            have x4 := HX4.out.c4
            have xf3 := HX4.out.fr 3
            have xf4 := HX4.out.fr 4
            go_upto_region 25 with fail
            clear x0 x1 x2 x3 x4 xf3 xf4
            have HD : Hid (SyAt w4.drew base S (td nn3 np3 wN3 wP3)) := Lib.hid (H4.out.below (Below.refl _ _).drew)
            have HXD : Hid (KeyC w4.drew xb y0 y1 y2 y3 y4) := Lib.hid (HX4.out.below (Below.refl _ _).drew)
            have HnS : Hid (nn < S.n ∧ nn < nn3) := Lib.hid (by have := HG3.out; have := HN'.out; omega)
            have HTh : Hid (World.there w4.drew S.bN (nn * 80 + s * 5) 5) := Lib.hid (fun j hj => by
              have h1 := HD.out.nkey nn (s * 5 + j) HnS.out.1 (by have := HS15.out; omega)
              rw [← Nat.add_assoc] at h1
              exact ⟨by rw [h1]; rfl, HD.out.nd.frozenAt _⟩)
            have b0 : (nn : Int) < S.n := by have := HnS.out.1; omega
            have sE := HSv.out
            refine wp_region_noPanic ?_
            refine wp_region_held_drew (S := fun w' => World.cell? w' ⟨S.x, 6, none⟩ = some (.slice (some ⟨S.bN, 0, none⟩) S.n S.n) ∧ World.cell? w' ⟨xb, 0, none⟩ = some (.int .i64 y0) ∧ World.cell? w' ⟨xb, 1, none⟩ = some (.int .i64 y1) ∧ World.cell? w' ⟨xb, 2, none⟩ = some (.int .i64 y2) ∧ World.cell? w' ⟨xb, 3, none⟩ = some (.int .i64 y3) ∧ World.cell? w' ⟨xb, 4, none⟩ = some (.int .u32 y4)) (by kernel_rfl) ⟨HD.out.f6, HXD.out.c0, HXD.out.c1, HXD.out.c2, HXD.out.c3, HXD.out.c4⟩ (fun hHeld => ?_)
            refine wpAnyH_take (i := 0) (v := ?_) (by rfl) (by kernel_rfl) (by kernel_rfl) (by kernel_rfl) (fun _ _ _ h => h) (Or.inl ⟨by kernel_rfl, ?_⟩) (by assumption) ?_; rotate_left 1; (focus (intro w hSw; (try dsimp only at hSw); simp only [List.getElem_toArray, List.getElem_cons_succ, List.getElem_cons_zero]; all_goals go_simp; all_goals (try with_reducible rfl))); (try simp only [Act.put, List.getElem_toArray, List.getElem_cons_succ, List.getElem_cons_zero, List.setIfInBounds_toArray, List.set_cons_zero, List.set_cons_succ])
            refine wpAnyH_take (i := 1) (v := ?_) (by rfl) (by kernel_rfl) (by kernel_rfl) (by kernel_rfl) (fun _ _ _ h => h) (Or.inl ⟨by kernel_rfl, ?_⟩) (by assumption) ?_; rotate_left 1; (focus (intro w hSw; (try dsimp only at hSw); simp only [List.getElem_toArray, List.getElem_cons_succ, List.getElem_cons_zero]; all_goals go_simp; all_goals (try with_reducible rfl))); (try simp only [Act.put, List.getElem_toArray, List.getElem_cons_succ, List.getElem_cons_zero, List.setIfInBounds_toArray, List.set_cons_zero, List.set_cons_succ])
            refine wpAnyH_take (i := 2) (v := ?_) (by rfl) (by kernel_rfl) (by kernel_rfl) (by kernel_rfl) (fun _ _ _ h => h) (Or.inl ⟨by kernel_rfl, ?_⟩) (by assumption) ?_; rotate_left 1; (focus (intro w hSw; (try dsimp only at hSw); simp only [List.getElem_toArray, List.getElem_cons_succ, List.getElem_cons_zero]; all_goals go_simp; all_goals (try with_reducible rfl))); (try simp only [Act.put, List.getElem_toArray, List.getElem_cons_succ, List.getElem_cons_zero, List.setIfInBounds_toArray, List.set_cons_zero, List.set_cons_succ])
            refine wpAnyH_take (i := 3) (v := ?_) (by rfl) (by kernel_rfl) (by kernel_rfl) (by kernel_rfl) (fun _ _ _ h => h) (Or.inl ⟨by kernel_rfl, ?_⟩) (by assumption) ?_; rotate_left 1; (focus (intro w hSw; (try dsimp only at hSw); simp only [List.getElem_toArray, List.getElem_cons_succ, List.getElem_cons_zero]; all_goals go_simp; all_goals (try with_reducible rfl))); (try simp only [Act.put, List.getElem_toArray, List.getElem_cons_succ, List.getElem_cons_zero, List.setIfInBounds_toArray, List.set_cons_zero, List.set_cons_succ])
            refine wpAnyH_take (i := 4) (v := ?_) (by rfl) (by kernel_rfl) (by kernel_rfl) (by kernel_rfl) (fun _ _ _ h => h) (Or.inl ⟨by kernel_rfl, ?_⟩) (by assumption) ?_; rotate_left 1; (focus (intro w hSw; (try dsimp only at hSw); simp only [List.getElem_toArray, List.getElem_cons_succ, List.getElem_cons_zero]; all_goals go_simp; all_goals (try with_reducible rfl))); (try simp only [Act.put, List.getElem_toArray, List.getElem_cons_succ, List.getElem_cons_zero, List.setIfInBounds_toArray, List.set_cons_zero, List.set_cons_succ])
            refine wpAnyH_take (i := 5) (v := ?_) (by rfl) (by kernel_rfl) (by kernel_rfl) (by kernel_rfl) (fun _ _ _ h => h) (Or.inl ⟨by kernel_rfl, ?_⟩) (by assumption) ?_; rotate_left 1; (focus (intro w hSw; (try dsimp only at hSw); simp only [List.getElem_toArray, List.getElem_cons_succ, List.getElem_cons_zero]; all_goals go_simp; all_goals (try with_reducible rfl))); (try simp only [Act.put, List.getElem_toArray, List.getElem_cons_succ, List.getElem_cons_zero, List.setIfInBounds_toArray, List.set_cons_zero, List.set_cons_succ])
            refine wpAnyH_take (i := 6) (v := ?_) (by rfl) (by kernel_rfl) (by kernel_rfl) (by kernel_rfl) (fun _ _ _ h => h) (Or.inl ⟨by kernel_rfl, ?_⟩) (by assumption) ?_; rotate_left 1; (focus (intro w hSw; (try dsimp only at hSw); simp only [List.getElem_toArray, List.getElem_cons_succ, List.getElem_cons_zero]; all_goals go_simp; all_goals (try with_reducible rfl))); (try simp only [Act.put, List.getElem_toArray, List.getElem_cons_succ, List.getElem_cons_zero, List.setIfInBounds_toArray, List.set_cons_zero, List.set_cons_succ])
            refine wpAnyH_take (i := 7) (v := ?_) (by rfl) (by kernel_rfl) (by kernel_rfl) (by kernel_rfl) (fun _ _ _ h => h) (Or.inl ⟨by kernel_rfl, ?_⟩) (by assumption) ?_; rotate_left 1; (focus (intro w hSw; (try dsimp only at hSw); simp only [List.getElem_toArray, List.getElem_cons_succ, List.getElem_cons_zero]; all_goals go_simp; all_goals (try with_reducible rfl))); (try simp only [Act.put, List.getElem_toArray, List.getElem_cons_succ, List.getElem_cons_zero, List.setIfInBounds_toArray, List.set_cons_zero, List.set_cons_succ])
            refine wpAnyH_take (i := 8) (v := ?_) (by rfl) (by kernel_rfl) (by kernel_rfl) (by kernel_rfl) (fun _ _ _ h => h) (Or.inl ⟨by kernel_rfl, ?_⟩) (by assumption) ?_; rotate_left 1; (focus (intro w hSw; (try dsimp only at hSw); simp only [List.getElem_toArray, List.getElem_cons_succ, List.getElem_cons_zero]; all_goals go_simp; all_goals (try with_reducible rfl))); (try simp only [Act.put, List.getElem_toArray, List.getElem_cons_succ, List.getElem_cons_zero, List.setIfInBounds_toArray, List.set_cons_zero, List.set_cons_succ])
            refine wpAnyH_ready (rs := [9]) (by kernel_rfl) (by simp) ?_; refine AllReadyH.cons (by rfl) (fun K hK => ?_) AllReadyH.nil; rw [if_pos (by kernel_rfl)]; simp only [List.getElem_toArray, List.getElem_cons_succ, List.getElem_cons_zero]
            refine wp_store_mid _ _ _ (by rfl) S.bN (nn * 80 + s * 5) #[.int .i64 y0, .int .i64 y1, .int .i64 y2, .int .i64 y3, .int .u32 y4] (by rfl) (by rfl) HTh.out infoKey5 (by simp [Value.oneCell']) ?_
            have hs5 := HD.out.keys nn (s * 5) HnS.out.1 (k5 y0 y1 y2 y3 y4) (by have := HS15.out; simp [k5]; omega)
            have H5 := Lib.hid hs5.1
            have HX5 := Lib.hid (HXD.out.same hs5.2.size (hs5.2.block xb HXD.out.lt (fun e => HXne.out.2.2.2.1 (by injection e with e; exact e.symm))))
            have HKR5 := Lib.hid ((HKR4.out.below (Below.refl _ _).drew).same hs5.2.size (hs5.2.block rb (HKR4.out.below (Below.refl _ _).drew).lt (fun e => HRo.out.2.2.2.1 (by injection e with e; exact e.symm))))
            have HSB5 := Lib.hid ((HSB4.out.trans (SBelow.of_below (Below.refl _ _).drew)).trans (SBelow.of_nodes (PBelow.of (B := S.gN) hs5.2 (.inr rfl))))
            have HTN5 := Lib.hid (HTN3.out.set nn s HKT.out)
            clear hs5
            refine hK.out _ (World.setCells w4.drew S.bN (nn * 80 + s * 5) (k5 y0 y1 y2 y3 y4)) ⟨H5.out.f6, HX5.out.c0, HX5.out.c1, HX5.out.c2, HX5.out.c3, HX5.out.c4⟩ (fun hHeld => ?_)
            clear hK K
            (try simp only [Act.put, List.getElem_toArray, List.getElem_cons_succ, List.getElem_cons_zero, List.setIfInBounds_toArray, List.set_cons_zero, List.set_cons_succ])
            refine wpAnyH_done (by kernel_rfl) ?_ _
            refine NoPanic.normal ?_
            go_wp2_with fail
            go_roundw
            case rel => exact ⟨k + 1, nn3, np3, _, _, by have := hq.out; have := HQL.out; omega, (by congr 1; have := hq.out; omega), H5.out, by have := HG3.out; have := HN'.out; omega, HG3.out.2.1, HG3.out.2.2, HTN5.out, HSB5.out, HKR5.out⟩
            case measure => simp [intOf]; have := hq.out; have := HQL.out; omega
          · have HTO := Lib.hid (IH.out (H : Int) rfl)
            go_upto_region 19 with (first
              | (go_at_call 41; (with_reducible refine (HTO.out _ _ _ _ _ _ _ _ _ HLs2.out.1 HLs2.out.2 HR.out HN'.out.2.1 HN'.out.2.2 HTN.out HLd.out).mono ?_); rintro e w3 ⟨y0, y1, y2, y3, y4, nn3, np3, wN3, wP3, rfl, hkt, g1, g2, g3, hs3, hn3, hb3⟩; have H3 := Lib.hid hs3; have HKT := Lib.hid hkt; have HG3 := Lib.hid (And.intro g1 (And.intro g2 g3)); have HTN3 := Lib.hid hn3; have HSB3 := Lib.hid (HSB.out.trans hb3); have HKR3 := Lib.hid (KeyC.same' HKR.out hb3.2.2.2.1 (hb3.2.2.2.2 rb HKR.out.lt HRo.out.2.1.symm HRo.out.2.2.1.symm HRo.out.2.2.2.1.symm HRo.out.2.2.2.2.symm)); clear hkt g1 g2 g3 hs3 hn3 hb3 hsl))
            obtain ⟨w4, hw4⟩ : ∃ w4, w4 = w3.alloc (.cells #[.int .i64 y0, .int .i64 y1, .int .i64 y2, .int .i64 y3, .int .u32 y4] 29 (0, 0)) := ⟨_, rfl⟩
            rw [← hw4]
            have H4 : Hid (SyAt w4 base S (td nn3 np3 wN3 wP3)) := Lib.hid (by rw [hw4]; exact H3.out.below ((Below.refl _ _).alloc (Nat.le_refl _) _))
            have HX4 : Hid (KeyC w4 w3.heap.size y0 y1 y2 y3 y4) := Lib.hid (by rw [hw4]; exact KeyC.new _ _ _ _ _ _ _)
            have HKR4 : Hid (KeyC w4 rb 0 0 0 0 0) := Lib.hid (by rw [hw4]; exact HKR3.out.below ((Below.refl _ _).alloc (Nat.le_refl _) _))
            have HSB4 : Hid (SBelow S w w4) := Lib.hid (HSB3.out.trans (by rw [hw4]; exact SBelow.of_below ((Below.refl _ _).alloc (Nat.le_refl _) _)))
            have HBx4 : Hid (Below w3.heap.size w4 w4) := Lib.hid (Below.refl _ _)
            obtain ⟨xb, hxb⟩ : ∃ xb, Hid (w3.heap.size = xb) := ⟨_, Lib.hid rfl⟩
            rw [hxb.out] at HX4 ⊢
            have HXne : Hid (S.x ≠ xb ∧ S.gN ≠ xb ∧ S.gP ≠ xb ∧ S.bN ≠ xb ∧ S.bP ≠ xb ∧ rb ≠ xb ∧ w.heap.size ≤ xb) := Lib.hid (by rw [← hxb.out]; have h1 := (H3.out.nd.lt S.bN rfl).2; have h2 := H3.out.xl; have h3 := (H3.out.ns.lt S.gN rfl).2; have h4 := (H3.out.ps.lt S.gP rfl).2; have h5 := (H3.out.pg.lt S.bP rfl).2; have h6 := HKR3.out.lt; have h7 := HSB3.out.2.2.2.1; omega)
            clear hw4 hxb H3 HKR3 HSB3
            by_cases hy2 : y0 = 2
            · subst hy2
              have x0 := HX4.out.c0
              have x1 := HX4.out.c1
              have x2 := HX4.out.c2
              have x3 := HX4.out.c3
              have x4 := HX4.out.c4
              have xf3 := HX4.out.fr 3
              have xf4 := HX4.out.fr 4
              go_upto_region 25 with fail
              obtain ⟨w5, hw5⟩ : ∃ w5, w5 = w4.setCell ⟨xb, 4, none⟩ (.int .u32 ht) := ⟨_, rfl⟩
              rw [← hw5]
              have H5a : Hid (SyAt w5 base S (td nn3 np3 wN3 wP3)) := Lib.hid (by rw [hw5]; exact H4.out.put xb ⟨HXne.out.1, HXne.out.2.1, HXne.out.2.2.1, HXne.out.2.2.2.1, HXne.out.2.2.2.2.1⟩ 4 _)
              have HX5a : Hid (KeyC w5 xb 2 y1 y2 y3 ht) := Lib.hid (by rw [hw5]; exact HX4.out.set4 ht)
              have HKR5a : Hid (KeyC w5 rb 0 0 0 0 0) := Lib.hid (by rw [hw5]; exact HKR4.out.same' (by simp) (set_heap _ _ _ _ _ HXne.out.2.2.2.2.2.1))
              have HSB5a : Hid (SBelow S w w5) := Lib.hid (by rw [hw5]; exact HSB4.out.put xb HXne.out.2.2.2.2.2.2 4 _)
              clear hw5 x0 x1 x2 x3 x4 xf3 xf4
              obtain ⟨z4, hz4⟩ : ∃ z4, Hid (ht = z4) := ⟨_, Lib.hid rfl⟩
              have HKZ : Hid (KeyT 2 y1 y2 y3 z4) := Lib.hid (by rw [← hz4.out]; exact ⟨HKT.out.k, HKT.out.i, HKT.out.v, HKT.out.r, by omega⟩)
              rw [hz4.out] at HX5a
              have HD : Hid (SyAt w5.drew base S (td nn3 np3 wN3 wP3)) := Lib.hid (H5a.out.below (Below.refl _ _).drew)
              have HXD : Hid (KeyC w5.drew xb 2 y1 y2 y3 z4) := Lib.hid (HX5a.out.below (Below.refl _ _).drew)
              have HnS : Hid (nn < S.n ∧ nn < nn3) := Lib.hid (by have := HG3.out; have := HN'.out; omega)
              have HTh : Hid (World.there w5.drew S.bN (nn * 80 + s * 5) 5) := Lib.hid (fun j hj => by
                have h1 := HD.out.nkey nn (s * 5 + j) HnS.out.1 (by have := HS15.out; omega)
                rw [← Nat.add_assoc] at h1
                exact ⟨by rw [h1]; rfl, HD.out.nd.frozenAt _⟩)
              have b0 : (nn : Int) < S.n := by have := HnS.out.1; omega
              have sE := HSv.out
              refine wp_region_noPanic ?_
              refine wp_region_held_drew (S := fun w' => World.cell? w' ⟨S.x, 6, none⟩ = some (.slice (some ⟨S.bN, 0, none⟩) S.n S.n) ∧ World.cell? w' ⟨xb, 0, none⟩ = some (.int .i64 2) ∧ World.cell? w' ⟨xb, 1, none⟩ = some (.int .i64 y1) ∧ World.cell? w' ⟨xb, 2, none⟩ = some (.int .i64 y2) ∧ World.cell? w' ⟨xb, 3, none⟩ = some (.int .i64 y3) ∧ World.cell? w' ⟨xb, 4, none⟩ = some (.int .u32 z4)) (by kernel_rfl) ⟨HD.out.f6, HXD.out.c0, HXD.out.c1, HXD.out.c2, HXD.out.c3, HXD.out.c4⟩ (fun hHeld => ?_)
              refine wpAnyH_take (i := 0) (v := ?_) (by rfl) (by kernel_rfl) (by kernel_rfl) (by kernel_rfl) (fun _ _ _ h => h) (Or.inl ⟨by kernel_rfl, ?_⟩) (by assumption) ?_; rotate_left 1; (focus (intro w hSw; (try dsimp only at hSw); simp only [List.getElem_toArray, List.getElem_cons_succ, List.getElem_cons_zero]; all_goals go_simp; all_goals (try with_reducible rfl))); (try simp only [Act.put, List.getElem_toArray, List.getElem_cons_succ, List.getElem_cons_zero, List.setIfInBounds_toArray, List.set_cons_zero, List.set_cons_succ])
              refine wpAnyH_take (i := 1) (v := ?_) (by rfl) (by kernel_rfl) (by kernel_rfl) (by kernel_rfl) (fun _ _ _ h => h) (Or.inl ⟨by kernel_rfl, ?_⟩) (by assumption) ?_; rotate_left 1; (focus (intro w hSw; (try dsimp only at hSw); simp only [List.getElem_toArray, List.getElem_cons_succ, List.getElem_cons_zero]; all_goals go_simp; all_goals (try with_reducible rfl))); (try simp only [Act.put, List.getElem_toArray, List.getElem_cons_succ, List.getElem_cons_zero, List.setIfInBounds_toArray, List.set_cons_zero, List.set_cons_succ])
              refine wpAnyH_take (i := 2) (v := ?_) (by rfl) (by kernel_rfl) (by kernel_rfl) (by kernel_rfl) (fun _ _ _ h => h) (Or.inl ⟨by kernel_rfl, ?_⟩) (by assumption) ?_; rotate_left 1; (focus (intro w hSw; (try dsimp only at hSw); simp only [List.getElem_toArray, List.getElem_cons_succ, List.getElem_cons_zero]; all_goals go_simp; all_goals (try with_reducible rfl))); (try simp only [Act.put, List.getElem_toArray, List.getElem_cons_succ, List.getElem_cons_zero, List.setIfInBounds_toArray, List.set_cons_zero, List.set_cons_succ])
              refine wpAnyH_take (i := 3) (v := ?_) (by rfl) (by kernel_rfl) (by kernel_rfl) (by kernel_rfl) (fun _ _ _ h => h) (Or.inl ⟨by kernel_rfl, ?_⟩) (by assumption) ?_; rotate_left 1; (focus (intro w hSw; (try dsimp only at hSw); simp only [List.getElem_toArray, List.getElem_cons_succ, List.getElem_cons_zero]; all_goals go_simp; all_goals (try with_reducible rfl))); (try simp only [Act.put, List.getElem_toArray, List.getElem_cons_succ, List.getElem_cons_zero, List.setIfInBounds_toArray, List.set_cons_zero, List.set_cons_succ])
              refine wpAnyH_take (i := 4) (v := ?_) (by rfl) (by kernel_rfl) (by kernel_rfl) (by kernel_rfl) (fun _ _ _ h => h) (Or.inl ⟨by kernel_rfl, ?_⟩) (by assumption) ?_; rotate_left 1; (focus (intro w hSw; (try dsimp only at hSw); simp only [List.getElem_toArray, List.getElem_cons_succ, List.getElem_cons_zero]; all_goals go_simp; all_goals (try with_reducible rfl))); (try simp only [Act.put, List.getElem_toArray, List.getElem_cons_succ, List.getElem_cons_zero, List.setIfInBounds_toArray, List.set_cons_zero, List.set_cons_succ])
              refine wpAnyH_take (i := 5) (v := ?_) (by rfl) (by kernel_rfl) (by kernel_rfl) (by kernel_rfl) (fun _ _ _ h => h) (Or.inl ⟨by kernel_rfl, ?_⟩) (by assumption) ?_; rotate_left 1; (focus (intro w hSw; (try dsimp only at hSw); simp only [List.getElem_toArray, List.getElem_cons_succ, List.getElem_cons_zero]; all_goals go_simp; all_goals (try with_reducible rfl))); (try simp only [Act.put, List.getElem_toArray, List.getElem_cons_succ, List.getElem_cons_zero, List.setIfInBounds_toArray, List.set_cons_zero, List.set_cons_succ])
              refine wpAnyH_take (i := 6) (v := ?_) (by rfl) (by kernel_rfl) (by kernel_rfl) (by kernel_rfl) (fun _ _ _ h => h) (Or.inl ⟨by kernel_rfl, ?_⟩) (by assumption) ?_; rotate_left 1; (focus (intro w hSw; (try dsimp only at hSw); simp only [List.getElem_toArray, List.getElem_cons_succ, List.getElem_cons_zero]; all_goals go_simp; all_goals (try with_reducible rfl))); (try simp only [Act.put, List.getElem_toArray, List.getElem_cons_succ, List.getElem_cons_zero, List.setIfInBounds_toArray, List.set_cons_zero, List.set_cons_succ])
              refine wpAnyH_take (i := 7) (v := ?_) (by rfl) (by kernel_rfl) (by kernel_rfl) (by kernel_rfl) (fun _ _ _ h => h) (Or.inl ⟨by kernel_rfl, ?_⟩) (by assumption) ?_; rotate_left 1; (focus (intro w hSw; (try dsimp only at hSw); simp only [List.getElem_toArray, List.getElem_cons_succ, List.getElem_cons_zero]; all_goals go_simp; all_goals (try with_reducible rfl))); (try simp only [Act.put, List.getElem_toArray, List.getElem_cons_succ, List.getElem_cons_zero, List.setIfInBounds_toArray, List.set_cons_zero, List.set_cons_succ])
              refine wpAnyH_take (i := 8) (v := ?_) (by rfl) (by kernel_rfl) (by kernel_rfl) (by kernel_rfl) (fun _ _ _ h => h) (Or.inl ⟨by kernel_rfl, ?_⟩) (by assumption) ?_; rotate_left 1; (focus (intro w hSw; (try dsimp only at hSw); simp only [List.getElem_toArray, List.getElem_cons_succ, List.getElem_cons_zero]; all_goals go_simp; all_goals (try with_reducible rfl))); (try simp only [Act.put, List.getElem_toArray, List.getElem_cons_succ, List.getElem_cons_zero, List.setIfInBounds_toArray, List.set_cons_zero, List.set_cons_succ])
              refine wpAnyH_ready (rs := [9]) (by kernel_rfl) (by simp) ?_; refine AllReadyH.cons (by rfl) (fun K hK => ?_) AllReadyH.nil; rw [if_pos (by kernel_rfl)]; simp only [List.getElem_toArray, List.getElem_cons_succ, List.getElem_cons_zero]
              refine wp_store_mid _ _ _ (by rfl) S.bN (nn * 80 + s * 5) #[.int .i64 2, .int .i64 y1, .int .i64 y2, .int .i64 y3, .int .u32 z4] (by rfl) (by rfl) HTh.out infoKey5 (by simp [Value.oneCell']) ?_
              have hs5 := HD.out.keys nn (s * 5) HnS.out.1 (k5 2 y1 y2 y3 z4) (by have := HS15.out; simp [k5]; omega)
              have H5 := Lib.hid hs5.1
              have HX5 := Lib.hid (HXD.out.same hs5.2.size (hs5.2.block xb HXD.out.lt (fun e => HXne.out.2.2.2.1 (by injection e with e; exact e.symm))))
              have HKR5 := Lib.hid ((HKR5a.out.below (Below.refl _ _).drew).same hs5.2.size (hs5.2.block rb (HKR5a.out.below (Below.refl _ _).drew).lt (fun e => HRo.out.2.2.2.1 (by injection e with e; exact e.symm))))
              have HSB5 := Lib.hid ((HSB5a.out.trans (SBelow.of_below (Below.refl _ _).drew)).trans (SBelow.of_nodes (PBelow.of (B := S.gN) hs5.2 (.inr rfl))))
              have HTN5 := Lib.hid (HTN3.out.set nn s HKZ.out)
              clear hs5
              refine hK.out _ (World.setCells w5.drew S.bN (nn * 80 + s * 5) (k5 2 y1 y2 y3 z4)) ⟨H5.out.f6, HX5.out.c0, HX5.out.c1, HX5.out.c2, HX5.out.c3, HX5.out.c4⟩ (fun hHeld => ?_)
              clear hK K
              (try simp only [Act.put, List.getElem_toArray, List.getElem_cons_succ, List.getElem_cons_zero, List.setIfInBounds_toArray, List.set_cons_zero, List.set_cons_succ])
              refine wpAnyH_done (by kernel_rfl) ?_ _
              refine NoPanic.normal ?_
              go_wp2_with fail
              go_roundw
              case rel => exact ⟨k + 1, nn3, np3, _, _, by have := hq.out; have := HQL.out; omega, (by congr 1; have := hq.out; omega), H5.out, by have := HG3.out; have := HN'.out; omega, HG3.out.2.1, HG3.out.2.2, HTN5.out, HSB5.out, HKR5.out⟩
              case measure => simp [intOf]; have := hq.out; have := HQL.out; omega
            · have xe : (y0 == 2) = false := by simp [hy2]
              have x0 := HX4.out.c0
              have x1 := HX4.out.c1
              have x2 := HX4.out.c2
              have x3 := HX4.out.c3
              have x4 := HX4.out.c4
              have xf3 := HX4.out.fr 3
              have xf4 := HX4.out.fr 4
              go_upto_region 25 with fail
              clear x0 x1 x2 x3 x4 xf3 xf4
              have HD : Hid (SyAt w4.drew base S (td nn3 np3 wN3 wP3)) := Lib.hid (H4.out.below (Below.refl _ _).drew)
              have HXD : Hid (KeyC w4.drew xb y0 y1 y2 y3 y4) := Lib.hid (HX4.out.below (Below.refl _ _).drew)
              have HnS : Hid (nn < S.n ∧ nn < nn3) := Lib.hid (by have := HG3.out; have := HN'.out; omega)
              have HTh : Hid (World.there w4.drew S.bN (nn * 80 + s * 5) 5) := Lib.hid (fun j hj => by
                have h1 := HD.out.nkey nn (s * 5 + j) HnS.out.1 (by have := HS15.out; omega)
                rw [← Nat.add_assoc] at h1
                exact ⟨by rw [h1]; rfl, HD.out.nd.frozenAt _⟩)
              have b0 : (nn : Int) < S.n := by have := HnS.out.1; omega
              have sE := HSv.out
              refine wp_region_noPanic ?_
              refine wp_region_held_drew (S := fun w' => World.cell? w' ⟨S.x, 6, none⟩ = some (.slice (some ⟨S.bN, 0, none⟩) S.n S.n) ∧ World.cell? w' ⟨xb, 0, none⟩ = some (.int .i64 y0) ∧ World.cell? w' ⟨xb, 1, none⟩ = some (.int .i64 y1) ∧ World.cell? w' ⟨xb, 2, none⟩ = some (.int .i64 y2) ∧ World.cell? w' ⟨xb, 3, none⟩ = some (.int .i64 y3) ∧ World.cell? w' ⟨xb, 4, none⟩ = some (.int .u32 y4)) (by kernel_rfl) ⟨HD.out.f6, HXD.out.c0, HXD.out.c1, HXD.out.c2, HXD.out.c3, HXD.out.c4⟩ (fun hHeld => ?_)
              refine wpAnyH_take (i := 0) (v := ?_) (by rfl) (by kernel_rfl) (by kernel_rfl) (by kernel_rfl) (fun _ _ _ h => h) (Or.inl ⟨by kernel_rfl, ?_⟩) (by assumption) ?_; rotate_left 1; (focus (intro w hSw; (try dsimp only at hSw); simp only [List.getElem_toArray, List.getElem_cons_succ, List.getElem_cons_zero]; all_goals go_simp; all_goals (try with_reducible rfl))); (try simp only [Act.put, List.getElem_toArray, List.getElem_cons_succ, List.getElem_cons_zero, List.setIfInBounds_toArray, List.set_cons_zero, List.set_cons_succ])
              refine wpAnyH_take (i := 1) (v := ?_) (by rfl) (by kernel_rfl) (by kernel_rfl) (by kernel_rfl) (fun _ _ _ h => h) (Or.inl ⟨by kernel_rfl, ?_⟩) (by assumption) ?_; rotate_left 1; (focus (intro w hSw; (try dsimp only at hSw); simp only [List.getElem_toArray, List.getElem_cons_succ, List.getElem_cons_zero]; all_goals go_simp; all_goals (try with_reducible rfl))); (try simp only [Act.put, List.getElem_toArray, List.getElem_cons_succ, List.getElem_cons_zero, List.setIfInBounds_toArray, List.set_cons_zero, List.set_cons_succ])
              refine wpAnyH_take (i := 2) (v := ?_) (by rfl) (by kernel_rfl) (by kernel_rfl) (by kernel_rfl) (fun _ _ _ h => h) (Or.inl ⟨by kernel_rfl, ?_⟩) (by assumption) ?_; rotate_left 1; (focus (intro w hSw; (try dsimp only at hSw); simp only [List.getElem_toArray, List.getElem_cons_succ, List.getElem_cons_zero]; all_goals go_simp; all_goals (try with_reducible rfl))); (try simp only [Act.put, List.getElem_toArray, List.getElem_cons_succ, List.getElem_cons_zero, List.setIfInBounds_toArray, List.set_cons_zero, List.set_cons_succ])
              refine wpAnyH_take (i := 3) (v := ?_) (by rfl) (by kernel_rfl) (by kernel_rfl) (by kernel_rfl) (fun _ _ _ h => h) (Or.inl ⟨by kernel_rfl, ?_⟩) (by assumption) ?_; rotate_left 1; (focus (intro w hSw; (try dsimp only at hSw); simp only [List.getElem_toArray, List.getElem_cons_succ, List.getElem_cons_zero]; all_goals go_simp; all_goals (try with_reducible rfl))); (try simp only [Act.put, List.getElem_toArray, List.getElem_cons_succ, List.getElem_cons_zero, List.setIfInBounds_toArray, List.set_cons_zero, List.set_cons_succ])
              refine wpAnyH_take (i := 4) (v := ?_) (by rfl) (by kernel_rfl) (by kernel_rfl) (by kernel_rfl) (fun _ _ _ h => h) (Or.inl ⟨by kernel_rfl, ?_⟩) (by assumption) ?_; rotate_left 1; (focus (intro w hSw; (try dsimp only at hSw); simp only [List.getElem_toArray, List.getElem_cons_succ, List.getElem_cons_zero]; all_goals go_simp; all_goals (try with_reducible rfl))); (try simp only [Act.put, List.getElem_toArray, List.getElem_cons_succ, List.getElem_cons_zero, List.setIfInBounds_toArray, List.set_cons_zero, List.set_cons_succ])
              refine wpAnyH_take (i := 5) (v := ?_) (by rfl) (by kernel_rfl) (by kernel_rfl) (by kernel_rfl) (fun _ _ _ h => h) (Or.inl ⟨by kernel_rfl, ?_⟩) (by assumption) ?_; rotate_left 1; (focus (intro w hSw; (try dsimp only at hSw); simp only [List.getElem_toArray, List.getElem_cons_succ, List.getElem_cons_zero]; all_goals go_simp; all_goals (try with_reducible rfl))); (try simp only [Act.put, List.getElem_toArray, List.getElem_cons_succ, List.getElem_cons_zero, List.setIfInBounds_toArray, List.set_cons_zero, List.set_cons_succ])
              refine wpAnyH_take (i := 6) (v := ?_) (by rfl) (by kernel_rfl) (by kernel_rfl) (by kernel_rfl) (fun _ _ _ h => h) (Or.inl ⟨by kernel_rfl, ?_⟩) (by assumption) ?_; rotate_left 1; (focus (intro w hSw; (try dsimp only at hSw); simp only [List.getElem_toArray, List.getElem_cons_succ, List.getElem_cons_zero]; all_goals go_simp; all_goals (try with_reducible rfl))); (try simp only [Act.put, List.getElem_toArray, List.getElem_cons_succ, List.getElem_cons_zero, List.setIfInBounds_toArray, List.set_cons_zero, List.set_cons_succ])
              refine wpAnyH_take (i := 7) (v := ?_) (by rfl) (by kernel_rfl) (by kernel_rfl) (by kernel_rfl) (fun _ _ _ h => h) (Or.inl ⟨by kernel_rfl, ?_⟩) (by assumption) ?_; rotate_left 1; (focus (intro w hSw; (try dsimp only at hSw); simp only [List.getElem_toArray, List.getElem_cons_succ, List.getElem_cons_zero]; all_goals go_simp; all_goals (try with_reducible rfl))); (try simp only [Act.put, List.getElem_toArray, List.getElem_cons_succ, List.getElem_cons_zero, List.setIfInBounds_toArray, List.set_cons_zero, List.set_cons_succ])
              refine wpAnyH_take (i := 8) (v := ?_) (by rfl) (by kernel_rfl) (by kernel_rfl) (by kernel_rfl) (fun _ _ _ h => h) (Or.inl ⟨by kernel_rfl, ?_⟩) (by assumption) ?_; rotate_left 1; (focus (intro w hSw; (try dsimp only at hSw); simp only [List.getElem_toArray, List.getElem_cons_succ, List.getElem_cons_zero]; all_goals go_simp; all_goals (try with_reducible rfl))); (try simp only [Act.put, List.getElem_toArray, List.getElem_cons_succ, List.getElem_cons_zero, List.setIfInBounds_toArray, List.set_cons_zero, List.set_cons_succ])
              refine wpAnyH_ready (rs := [9]) (by kernel_rfl) (by simp) ?_; refine AllReadyH.cons (by rfl) (fun K hK => ?_) AllReadyH.nil; rw [if_pos (by kernel_rfl)]; simp only [List.getElem_toArray, List.getElem_cons_succ, List.getElem_cons_zero]
              refine wp_store_mid _ _ _ (by rfl) S.bN (nn * 80 + s * 5) #[.int .i64 y0, .int .i64 y1, .int .i64 y2, .int .i64 y3, .int .u32 y4] (by rfl) (by rfl) HTh.out infoKey5 (by simp [Value.oneCell']) ?_
              have hs5 := HD.out.keys nn (s * 5) HnS.out.1 (k5 y0 y1 y2 y3 y4) (by have := HS15.out; simp [k5]; omega)
              have H5 := Lib.hid hs5.1
              have HX5 := Lib.hid (HXD.out.same hs5.2.size (hs5.2.block xb HXD.out.lt (fun e => HXne.out.2.2.2.1 (by injection e with e; exact e.symm))))
              have HKR5 := Lib.hid ((HKR4.out.below (Below.refl _ _).drew).same hs5.2.size (hs5.2.block rb (HKR4.out.below (Below.refl _ _).drew).lt (fun e => HRo.out.2.2.2.1 (by injection e with e; exact e.symm))))
              have HSB5 := Lib.hid ((HSB4.out.trans (SBelow.of_below (Below.refl _ _).drew)).trans (SBelow.of_nodes (PBelow.of (B := S.gN) hs5.2 (.inr rfl))))
              have HTN5 := Lib.hid (HTN3.out.set nn s HKT.out)
              clear hs5
              refine hK.out _ (World.setCells w4.drew S.bN (nn * 80 + s * 5) (k5 y0 y1 y2 y3 y4)) ⟨H5.out.f6, HX5.out.c0, HX5.out.c1, HX5.out.c2, HX5.out.c3, HX5.out.c4⟩ (fun hHeld => ?_)
              clear hK K
              (try simp only [Act.put, List.getElem_toArray, List.getElem_cons_succ, List.getElem_cons_zero, List.setIfInBounds_toArray, List.set_cons_zero, List.set_cons_succ])
              refine wpAnyH_done (by kernel_rfl) ?_ _
              refine NoPanic.normal ?_
              go_wp2_with fail
              go_roundw
              case rel => exact ⟨k + 1, nn3, np3, _, _, by have := hq.out; have := HQL.out; omega, (by congr 1; have := hq.out; omega), H5.out, by have := HG3.out; have := HN'.out; omega, HG3.out.2.1, HG3.out.2.2, HTN5.out, HSB5.out, HKR5.out⟩
              case measure => simp [intOf]; have := hq.out; have := HQL.out; omega
          · have HTO := Lib.hid (I0.out 0 rfl)
            go_upto_region 19 with (first
              | (go_at_call 41; (with_reducible refine (HTO.out _ _ _ _ _ _ _ _ _ HLs2.out.1 HLs2.out.2 HR.out HN'.out.2.1 HN'.out.2.2 HTN.out HLd.out).mono ?_); rintro e w3 ⟨y0, y1, y2, y3, y4, nn3, np3, wN3, wP3, rfl, hkt, g1, g2, g3, hs3, hn3, hb3⟩; have H3 := Lib.hid hs3; have HKT := Lib.hid hkt; have HG3 := Lib.hid (And.intro g1 (And.intro g2 g3)); have HTN3 := Lib.hid hn3; have HSB3 := Lib.hid (HSB.out.trans hb3); have HKR3 := Lib.hid (KeyC.same' HKR.out hb3.2.2.2.1 (hb3.2.2.2.2 rb HKR.out.lt HRo.out.2.1.symm HRo.out.2.2.1.symm HRo.out.2.2.2.1.symm HRo.out.2.2.2.2.symm)); clear hkt g1 g2 g3 hs3 hn3 hb3 hsl))
            obtain ⟨w4, hw4⟩ : ∃ w4, w4 = w3.alloc (.cells #[.int .i64 y0, .int .i64 y1, .int .i64 y2, .int .i64 y3, .int .u32 y4] 29 (0, 0)) := ⟨_, rfl⟩
            rw [← hw4]
            have H4 : Hid (SyAt w4 base S (td nn3 np3 wN3 wP3)) := Lib.hid (by rw [hw4]; exact H3.out.below ((Below.refl _ _).alloc (Nat.le_refl _) _))
            have HX4 : Hid (KeyC w4 w3.heap.size y0 y1 y2 y3 y4) := Lib.hid (by rw [hw4]; exact KeyC.new _ _ _ _ _ _ _)
            have HKR4 : Hid (KeyC w4 rb 0 0 0 0 0) := Lib.hid (by rw [hw4]; exact HKR3.out.below ((Below.refl _ _).alloc (Nat.le_refl _) _))
            have HSB4 : Hid (SBelow S w w4) := Lib.hid (HSB3.out.trans (by rw [hw4]; exact SBelow.of_below ((Below.refl _ _).alloc (Nat.le_refl _) _)))
            have HBx4 : Hid (Below w3.heap.size w4 w4) := Lib.hid (Below.refl _ _)
            obtain ⟨xb, hxb⟩ : ∃ xb, Hid (w3.heap.size = xb) := ⟨_, Lib.hid rfl⟩
            rw [hxb.out] at HX4 ⊢
            have HXne : Hid (S.x ≠ xb ∧ S.gN ≠ xb ∧ S.gP ≠ xb ∧ S.bN ≠ xb ∧ S.bP ≠ xb ∧ rb ≠ xb ∧ w.heap.size ≤ xb) := Lib.hid (by rw [← hxb.out]; have h1 := (H3.out.nd.lt S.bN rfl).2; have h2 := H3.out.xl; have h3 := (H3.out.ns.lt S.gN rfl).2; have h4 := (H3.out.ps.lt S.gP rfl).2; have h5 := (H3.out.pg.lt S.bP rfl).2; have h6 := HKR3.out.lt; have h7 := HSB3.out.2.2.2.1; omega)
            clear hw4 hxb H3 HKR3 HSB3
            have x0 := HX4.out.c0
            have x1 := HX4.out.c1
            have x2 := HX4.out.c2
            have x3 := HX4.out.c3
            have x4 := HX4.out.c4
            have xf3 := HX4.out.fr 3
            have xf4 := HX4.out.fr 4
            go_upto_region 25 with fail
            obtain ⟨w5, hw5⟩ : ∃ w5, w5 = w4.setCell ⟨xb, 3, none⟩ (.int .i64 1) := ⟨_, rfl⟩
            rw [← hw5]
            have H5a : Hid (SyAt w5 base S (td nn3 np3 wN3 wP3)) := Lib.hid (by rw [hw5]; exact H4.out.put xb ⟨HXne.out.1, HXne.out.2.1, HXne.out.2.2.1, HXne.out.2.2.2.1, HXne.out.2.2.2.2.1⟩ 3 _)
            have HX5a : Hid (KeyC w5 xb y0 y1 y2 1 y4) := Lib.hid (by rw [hw5]; exact HX4.out.set3 1)
            have HKR5a : Hid (KeyC w5 rb 0 0 0 0 0) := Lib.hid (by rw [hw5]; exact HKR4.out.same' (by simp) (set_heap _ _ _ _ _ HXne.out.2.2.2.2.2.1))
            have HSB5a : Hid (SBelow S w w5) := Lib.hid (by rw [hw5]; exact HSB4.out.put xb HXne.out.2.2.2.2.2.2 3 _)
            clear hw5 x0 x1 x2 x3 x4 xf3 xf4
            have HD : Hid (SyAt w5.drew base S (td nn3 np3 wN3 wP3)) := Lib.hid (H5a.out.below (Below.refl _ _).drew)
            have HXD : Hid (KeyC w5.drew xb y0 y1 y2 1 y4) := Lib.hid (HX5a.out.below (Below.refl _ _).drew)
            have HnS : Hid (nn < S.n ∧ nn < nn3) := Lib.hid (by have := HG3.out; have := HN'.out; omega)
            have HTh : Hid (World.there w5.drew S.bN (nn * 80 + s * 5) 5) := Lib.hid (fun j hj => by
              have h1 := HD.out.nkey nn (s * 5 + j) HnS.out.1 (by have := HS15.out; omega)
              rw [← Nat.add_assoc] at h1
              exact ⟨by rw [h1]; rfl, HD.out.nd.frozenAt _⟩)
            have b0 : (nn : Int) < S.n := by have := HnS.out.1; omega
            have sE := HSv.out
            refine wp_region_noPanic ?_
            refine wp_region_held_drew (S := fun w' => World.cell? w' ⟨S.x, 6, none⟩ = some (.slice (some ⟨S.bN, 0, none⟩) S.n S.n) ∧ World.cell? w' ⟨xb, 0, none⟩ = some (.int .i64 y0) ∧ World.cell? w' ⟨xb, 1, none⟩ = some (.int .i64 y1) ∧ World.cell? w' ⟨xb, 2, none⟩ = some (.int .i64 y2) ∧ World.cell? w' ⟨xb, 3, none⟩ = some (.int .i64 1) ∧ World.cell? w' ⟨xb, 4, none⟩ = some (.int .u32 y4)) (by kernel_rfl) ⟨HD.out.f6, HXD.out.c0, HXD.out.c1, HXD.out.c2, HXD.out.c3, HXD.out.c4⟩ (fun hHeld => ?_)
            refine wpAnyH_take (i := 0) (v := ?_) (by rfl) (by kernel_rfl) (by kernel_rfl) (by kernel_rfl) (fun _ _ _ h => h) (Or.inl ⟨by kernel_rfl, ?_⟩) (by assumption) ?_; rotate_left 1; (focus (intro w hSw; (try dsimp only at hSw); simp only [List.getElem_toArray, List.getElem_cons_succ, List.getElem_cons_zero]; all_goals go_simp; all_goals (try with_reducible rfl))); (try simp only [Act.put, List.getElem_toArray, List.getElem_cons_succ, List.getElem_cons_zero, List.setIfInBounds_toArray, List.set_cons_zero, List.set_cons_succ])
            refine wpAnyH_take (i := 1) (v := ?_) (by rfl) (by kernel_rfl) (by kernel_rfl) (by kernel_rfl) (fun _ _ _ h => h) (Or.inl ⟨by kernel_rfl, ?_⟩) (by assumption) ?_; rotate_left 1; (focus (intro w hSw; (try dsimp only at hSw); simp only [List.getElem_toArray, List.getElem_cons_succ, List.getElem_cons_zero]; all_goals go_simp; all_goals (try with_reducible rfl))); (try simp only [Act.put, List.getElem_toArray, List.getElem_cons_succ, List.getElem_cons_zero, List.setIfInBounds_toArray, List.set_cons_zero, List.set_cons_succ])
            refine wpAnyH_take (i := 2) (v := ?_) (by rfl) (by kernel_rfl) (by kernel_rfl) (by kernel_rfl) (fun _ _ _ h => h) (Or.inl ⟨by kernel_rfl, ?_⟩) (by assumption) ?_; rotate_left 1; (focus (intro w hSw; (try dsimp only at hSw); simp only [List.getElem_toArray, List.getElem_cons_succ, List.getElem_cons_zero]; all_goals go_simp; all_goals (try with_reducible rfl))); (try simp only [Act.put, List.getElem_toArray, List.getElem_cons_succ, List.getElem_cons_zero, List.setIfInBounds_toArray, List.set_cons_zero, List.set_cons_succ])
            refine wpAnyH_take (i := 3) (v := ?_) (by rfl) (by kernel_rfl) (by kernel_rfl) (by kernel_rfl) (fun _ _ _ h => h) (Or.inl ⟨by kernel_rfl, ?_⟩) (by assumption) ?_; rotate_left 1; (focus (intro w hSw; (try dsimp only at hSw); simp only [List.getElem_toArray, List.getElem_cons_succ, List.getElem_cons_zero]; all_goals go_simp; all_goals (try with_reducible rfl))); (try simp only [Act.put, List.getElem_toArray, List.getElem_cons_succ, List.getElem_cons_zero, List.setIfInBounds_toArray, List.set_cons_zero, List.set_cons_succ])
            refine wpAnyH_take (i := 4) (v := ?_) (by rfl) (by kernel_rfl) (by kernel_rfl) (by kernel_rfl) (fun _ _ _ h => h) (Or.inl ⟨by kernel_rfl, ?_⟩) (by assumption) ?_; rotate_left 1; (focus (intro w hSw; (try dsimp only at hSw); simp only [List.getElem_toArray, List.getElem_cons_succ, List.getElem_cons_zero]; all_goals go_simp; all_goals (try with_reducible rfl))); (try simp only [Act.put, List.getElem_toArray, List.getElem_cons_succ, List.getElem_cons_zero, List.setIfInBounds_toArray, List.set_cons_zero, List.set_cons_succ])
            refine wpAnyH_take (i := 5) (v := ?_) (by rfl) (by kernel_rfl) (by kernel_rfl) (by kernel_rfl) (fun _ _ _ h => h) (Or.inl ⟨by kernel_rfl, ?_⟩) (by assumption) ?_; rotate_left 1; (focus (intro w hSw; (try dsimp only at hSw); simp only [List.getElem_toArray, List.getElem_cons_succ, List.getElem_cons_zero]; all_goals go_simp; all_goals (try with_reducible rfl))); (try simp only [Act.put, List.getElem_toArray, List.getElem_cons_succ, List.getElem_cons_zero, List.setIfInBounds_toArray, List.set_cons_zero, List.set_cons_succ])
            refine wpAnyH_take (i := 6) (v := ?_) (by rfl) (by kernel_rfl) (by kernel_rfl) (by kernel_rfl) (fun _ _ _ h => h) (Or.inl ⟨by kernel_rfl, ?_⟩) (by assumption) ?_; rotate_left 1; (focus (intro w hSw; (try dsimp only at hSw); simp only [List.getElem_toArray, List.getElem_cons_succ, List.getElem_cons_zero]; all_goals go_simp; all_goals (try with_reducible rfl))); (try simp only [Act.put, List.getElem_toArray, List.getElem_cons_succ, List.getElem_cons_zero, List.setIfInBounds_toArray, List.set_cons_zero, List.set_cons_succ])
            refine wpAnyH_take (i := 7) (v := ?_) (by rfl) (by kernel_rfl) (by kernel_rfl) (by kernel_rfl) (fun _ _ _ h => h) (Or.inl ⟨by kernel_rfl, ?_⟩) (by assumption) ?_; rotate_left 1; (focus (intro w hSw; (try dsimp only at hSw); simp only [List.getElem_toArray, List.getElem_cons_succ, List.getElem_cons_zero]; all_goals go_simp; all_goals (try with_reducible rfl))); (try simp only [Act.put, List.getElem_toArray, List.getElem_cons_succ, List.getElem_cons_zero, List.setIfInBounds_toArray, List.set_cons_zero, List.set_cons_succ])
            refine wpAnyH_take (i := 8) (v := ?_) (by rfl) (by kernel_rfl) (by kernel_rfl) (by kernel_rfl) (fun _ _ _ h => h) (Or.inl ⟨by kernel_rfl, ?_⟩) (by assumption) ?_; rotate_left 1; (focus (intro w hSw; (try dsimp only at hSw); simp only [List.getElem_toArray, List.getElem_cons_succ, List.getElem_cons_zero]; all_goals go_simp; all_goals (try with_reducible rfl))); (try simp only [Act.put, List.getElem_toArray, List.getElem_cons_succ, List.getElem_cons_zero, List.setIfInBounds_toArray, List.set_cons_zero, List.set_cons_succ])
            refine wpAnyH_ready (rs := [9]) (by kernel_rfl) (by simp) ?_; refine AllReadyH.cons (by rfl) (fun K hK => ?_) AllReadyH.nil; rw [if_pos (by kernel_rfl)]; simp only [List.getElem_toArray, List.getElem_cons_succ, List.getElem_cons_zero]
            refine wp_store_mid _ _ _ (by rfl) S.bN (nn * 80 + s * 5) #[.int .i64 y0, .int .i64 y1, .int .i64 y2, .int .i64 1, .int .u32 y4] (by rfl) (by rfl) HTh.out infoKey5 (by simp [Value.oneCell']) ?_
            have hs5 := HD.out.keys nn (s * 5) HnS.out.1 (k5 y0 y1 y2 1 y4) (by have := HS15.out; simp [k5]; omega)
            have H5 := Lib.hid hs5.1
            have HX5 := Lib.hid (HXD.out.same hs5.2.size (hs5.2.block xb HXD.out.lt (fun e => HXne.out.2.2.2.1 (by injection e with e; exact e.symm))))
            have HKR5 := Lib.hid ((HKR5a.out.below (Below.refl _ _).drew).same hs5.2.size (hs5.2.block rb (HKR5a.out.below (Below.refl _ _).drew).lt (fun e => HRo.out.2.2.2.1 (by injection e with e; exact e.symm))))
            have HSB5 := Lib.hid ((HSB5a.out.trans (SBelow.of_below (Below.refl _ _).drew)).trans (SBelow.of_nodes (PBelow.of (B := S.gN) hs5.2 (.inr rfl))))
            have HTN5 := Lib.hid (HTN3.out.set nn s (y3 := 1) ⟨HKT.out.k, HKT.out.i, HKT.out.v, .inr (.inl rfl), HKT.out.d⟩)
            clear hs5
            refine hK.out _ (World.setCells w5.drew S.bN (nn * 80 + s * 5) (k5 y0 y1 y2 1 y4)) ⟨H5.out.f6, HX5.out.c0, HX5.out.c1, HX5.out.c2, HX5.out.c3, HX5.out.c4⟩ (fun hHeld => ?_)
            clear hK K
            (try simp only [Act.put, List.getElem_toArray, List.getElem_cons_succ, List.getElem_cons_zero, List.setIfInBounds_toArray, List.set_cons_zero, List.set_cons_succ])
            refine wpAnyH_done (by kernel_rfl) ?_ _
            refine NoPanic.normal ?_
            go_wp2_with fail
            go_roundw
            case rel => exact ⟨k + 1, nn3, np3, _, _, by have := hq.out; have := HQL.out; omega, (by congr 1; have := hq.out; omega), H5.out, by have := HG3.out; have := HN'.out; omega, HG3.out.2.1, HG3.out.2.2, HTN5.out, HSB5.out, HKR5.out⟩
            case measure => simp [intOf]; have := hq.out; have := HQL.out; omega
          · have HTO := Lib.hid (IH.out (H : Int) rfl)
            go_upto_region 19 with (first
              | (go_at_call 41; (with_reducible refine (HTO.out _ _ _ _ _ _ _ _ _ HLs2.out.1 HLs2.out.2 HR.out HN'.out.2.1 HN'.out.2.2 HTN.out HLd.out).mono ?_); rintro e w3 ⟨y0, y1, y2, y3, y4, nn3, np3, wN3, wP3, rfl, hkt, g1, g2, g3, hs3, hn3, hb3⟩; have H3 := Lib.hid hs3; have HKT := Lib.hid hkt; have HG3 := Lib.hid (And.intro g1 (And.intro g2 g3)); have HTN3 := Lib.hid hn3; have HSB3 := Lib.hid (HSB.out.trans hb3); have HKR3 := Lib.hid (KeyC.same' HKR.out hb3.2.2.2.1 (hb3.2.2.2.2 rb HKR.out.lt HRo.out.2.1.symm HRo.out.2.2.1.symm HRo.out.2.2.2.1.symm HRo.out.2.2.2.2.symm)); clear hkt g1 g2 g3 hs3 hn3 hb3 hsl))
            obtain ⟨w4, hw4⟩ : ∃ w4, w4 = w3.alloc (.cells #[.int .i64 y0, .int .i64 y1, .int .i64 y2, .int .i64 y3, .int .u32 y4] 29 (0, 0)) := ⟨_, rfl⟩
            rw [← hw4]
            have H4 : Hid (SyAt w4 base S (td nn3 np3 wN3 wP3)) := Lib.hid (by rw [hw4]; exact H3.out.below ((Below.refl _ _).alloc (Nat.le_refl _) _))
            have HX4 : Hid (KeyC w4 w3.heap.size y0 y1 y2 y3 y4) := Lib.hid (by rw [hw4]; exact KeyC.new _ _ _ _ _ _ _)
            have HKR4 : Hid (KeyC w4 rb 0 0 0 0 0) := Lib.hid (by rw [hw4]; exact HKR3.out.below ((Below.refl _ _).alloc (Nat.le_refl _) _))
            have HSB4 : Hid (SBelow S w w4) := Lib.hid (HSB3.out.trans (by rw [hw4]; exact SBelow.of_below ((Below.refl _ _).alloc (Nat.le_refl _) _)))
            have HBx4 : Hid (Below w3.heap.size w4 w4) := Lib.hid (Below.refl _ _)
            obtain ⟨xb, hxb⟩ : ∃ xb, Hid (w3.heap.size = xb) := ⟨_, Lib.hid rfl⟩
            rw [hxb.out] at HX4 ⊢
            have HXne : Hid (S.x ≠ xb ∧ S.gN ≠ xb ∧ S.gP ≠ xb ∧ S.bN ≠ xb ∧ S.bP ≠ xb ∧ rb ≠ xb ∧ w.heap.size ≤ xb) := Lib.hid (by rw [← hxb.out]; have h1 := (H3.out.nd.lt S.bN rfl).2; have h2 := H3.out.xl; have h3 := (H3.out.ns.lt S.gN rfl).2; have h4 := (H3.out.ps.lt S.gP rfl).2; have h5 := (H3.out.pg.lt S.bP rfl).2; have h6 := HKR3.out.lt; have h7 := HSB3.out.2.2.2.1; omega)
            clear hw4 hxb H3 HKR3 HSB3
            by_cases hy2 : y0 = 0
            · subst hy2
              have x0 := HX4.out.c0
              have x1 := HX4.out.c1
              have x2 := HX4.out.c2
              have x3 := HX4.out.c3
              have x4 := HX4.out.c4
              have xf3 := HX4.out.fr 3
              have xf4 := HX4.out.fr 4
              go_upto_region 25 with fail
              clear x0 x1 x2 x3 x4 xf3 xf4
              have HD : Hid (SyAt w4.drew base S (td nn3 np3 wN3 wP3)) := Lib.hid (H4.out.below (Below.refl _ _).drew)
              have HXD : Hid (KeyC w4.drew xb 0 y1 y2 y3 y4) := Lib.hid (HX4.out.below (Below.refl _ _).drew)
              have HnS : Hid (nn < S.n ∧ nn < nn3) := Lib.hid (by have := HG3.out; have := HN'.out; omega)
              have HTh : Hid (World.there w4.drew S.bN (nn * 80 + s * 5) 5) := Lib.hid (fun j hj => by
                have h1 := HD.out.nkey nn (s * 5 + j) HnS.out.1 (by have := HS15.out; omega)
                rw [← Nat.add_assoc] at h1
                exact ⟨by rw [h1]; rfl, HD.out.nd.frozenAt _⟩)
              have b0 : (nn : Int) < S.n := by have := HnS.out.1; omega
              have sE := HSv.out
              refine wp_region_noPanic ?_
              refine wp_region_held_drew (S := fun w' => World.cell? w' ⟨S.x, 6, none⟩ = some (.slice (some ⟨S.bN, 0, none⟩) S.n S.n) ∧ World.cell? w' ⟨xb, 0, none⟩ = some (.int .i64 0) ∧ World.cell? w' ⟨xb, 1, none⟩ = some (.int .i64 y1) ∧ World.cell? w' ⟨xb, 2, none⟩ = some (.int .i64 y2) ∧ World.cell? w' ⟨xb, 3, none⟩ = some (.int .i64 y3) ∧ World.cell? w' ⟨xb, 4, none⟩ = some (.int .u32 y4)) (by kernel_rfl) ⟨HD.out.f6, HXD.out.c0, HXD.out.c1, HXD.out.c2, HXD.out.c3, HXD.out.c4⟩ (fun hHeld => ?_)
              refine wpAnyH_take (i := 0) (v := ?_) (by rfl) (by kernel_rfl) (by kernel_rfl) (by kernel_rfl) (fun _ _ _ h => h) (Or.inl ⟨by kernel_rfl, ?_⟩) (by assumption) ?_; rotate_left 1; (focus (intro w hSw; (try dsimp only at hSw); simp only [List.getElem_toArray, List.getElem_cons_succ, List.getElem_cons_zero]; all_goals go_simp; all_goals (try with_reducible rfl))); (try simp only [Act.put, List.getElem_toArray, List.getElem_cons_succ, List.getElem_cons_zero, List.setIfInBounds_toArray, List.set_cons_zero, List.set_cons_succ])
              refine wpAnyH_take (i := 1) (v := ?_) (by rfl) (by kernel_rfl) (by kernel_rfl) (by kernel_rfl) (fun _ _ _ h => h) (Or.inl ⟨by kernel_rfl, ?_⟩) (by assumption) ?_; rotate_left 1; (focus (intro w hSw; (try dsimp only at hSw); simp only [List.getElem_toArray, List.getElem_cons_succ, List.getElem_cons_zero]; all_goals go_simp; all_goals (try with_reducible rfl))); (try simp only [Act.put, List.getElem_toArray, List.getElem_cons_succ, List.getElem_cons_zero, List.setIfInBounds_toArray, List.set_cons_zero, List.set_cons_succ])
              refine wpAnyH_take (i := 2) (v := ?_) (by rfl) (by kernel_rfl) (by kernel_rfl) (by kernel_rfl) (fun _ _ _ h => h) (Or.inl ⟨by kernel_rfl, ?_⟩) (by assumption) ?_; rotate_left 1; (focus (intro w hSw; (try dsimp only at hSw); simp only [List.getElem_toArray, List.getElem_cons_succ, List.getElem_cons_zero]; all_goals go_simp; all_goals (try with_reducible rfl))); (try simp only [Act.put, List.getElem_toArray, List.getElem_cons_succ, List.getElem_cons_zero, List.setIfInBounds_toArray, List.set_cons_zero, List.set_cons_succ])
              refine wpAnyH_take (i := 3) (v := ?_) (by rfl) (by kernel_rfl) (by kernel_rfl) (by kernel_rfl) (fun _ _ _ h => h) (Or.inl ⟨by kernel_rfl, ?_⟩) (by assumption) ?_; rotate_left 1; (focus (intro w hSw; (try dsimp only at hSw); simp only [List.getElem_toArray, List.getElem_cons_succ, List.getElem_cons_zero]; all_goals go_simp; all_goals (try with_reducible rfl))); (try simp only [Act.put, List.getElem_toArray, List.getElem_cons_succ, List.getElem_cons_zero, List.setIfInBounds_toArray, List.set_cons_zero, List.set_cons_succ])
              refine wpAnyH_take (i := 4) (v := ?_) (by rfl) (by kernel_rfl) (by kernel_rfl) (by kernel_rfl) (fun _ _ _ h => h) (Or.inl ⟨by kernel_rfl, ?_⟩) (by assumption) ?_; rotate_left 1; (focus (intro w hSw; (try dsimp only at hSw); simp only [List.getElem_toArray, List.getElem_cons_succ, List.getElem_cons_zero]; all_goals go_simp; all_goals (try with_reducible rfl))); (try simp only [Act.put, List.getElem_toArray, List.getElem_cons_succ, List.getElem_cons_zero, List.setIfInBounds_toArray, List.set_cons_zero, List.set_cons_succ])
              refine wpAnyH_take (i := 5) (v := ?_) (by rfl) (by kernel_rfl) (by kernel_rfl) (by kernel_rfl) (fun _ _ _ h => h) (Or.inl ⟨by kernel_rfl, ?_⟩) (by assumption) ?_; rotate_left 1; (focus (intro w hSw; (try dsimp only at hSw); simp only [List.getElem_toArray, List.getElem_cons_succ, List.getElem_cons_zero]; all_goals go_simp; all_goals (try with_reducible rfl))); (try simp only [Act.put, List.getElem_toArray, List.getElem_cons_succ, List.getElem_cons_zero, List.setIfInBounds_toArray, List.set_cons_zero, List.set_cons_succ])
              refine wpAnyH_take (i := 6) (v := ?_) (by rfl) (by kernel_rfl) (by kernel_rfl) (by kernel_rfl) (fun _ _ _ h => h) (Or.inl ⟨by kernel_rfl, ?_⟩) (by assumption) ?_; rotate_left 1; (focus (intro w hSw; (try dsimp only at hSw); simp only [List.getElem_toArray, List.getElem_cons_succ, List.getElem_cons_zero]; all_goals go_simp; all_goals (try with_reducible rfl))); (try simp only [Act.put, List.getElem_toArray, List.getElem_cons_succ, List.getElem_cons_zero, List.setIfInBounds_toArray, List.set_cons_zero, List.set_cons_succ])
              refine wpAnyH_take (i := 7) (v := ?_) (by rfl) (by kernel_rfl) (by kernel_rfl) (by kernel_rfl) (fun _ _ _ h => h) (Or.inl ⟨by kernel_rfl, ?_⟩) (by assumption) ?_; rotate_left 1; (focus (intro w hSw; (try dsimp only at hSw); simp only [List.getElem_toArray, List.getElem_cons_succ, List.getElem_cons_zero]; all_goals go_simp; all_goals (try with_reducible rfl))); (try simp only [Act.put, List.getElem_toArray, List.getElem_cons_succ, List.getElem_cons_zero, List.setIfInBounds_toArray, List.set_cons_zero, List.set_cons_succ])
              refine wpAnyH_take (i := 8) (v := ?_) (by rfl) (by kernel_rfl) (by kernel_rfl) (by kernel_rfl) (fun _ _ _ h => h) (Or.inl ⟨by kernel_rfl, ?_⟩) (by assumption) ?_; rotate_left 1; (focus (intro w hSw; (try dsimp only at hSw); simp only [List.getElem_toArray, List.getElem_cons_succ, List.getElem_cons_zero]; all_goals go_simp; all_goals (try with_reducible rfl))); (try simp only [Act.put, List.getElem_toArray, List.getElem_cons_succ, List.getElem_cons_zero, List.setIfInBounds_toArray, List.set_cons_zero, List.set_cons_succ])
              refine wpAnyH_ready (rs := [9]) (by kernel_rfl) (by simp) ?_; refine AllReadyH.cons (by rfl) (fun K hK => ?_) AllReadyH.nil; rw [if_pos (by kernel_rfl)]; simp only [List.getElem_toArray, List.getElem_cons_succ, List.getElem_cons_zero]
              refine wp_store_mid _ _ _ (by rfl) S.bN (nn * 80 + s * 5) #[.int .i64 0, .int .i64 y1, .int .i64 y2, .int .i64 y3, .int .u32 y4] (by rfl) (by rfl) HTh.out infoKey5 (by simp [Value.oneCell']) ?_
              have hs5 := HD.out.keys nn (s * 5) HnS.out.1 (k5 0 y1 y2 y3 y4) (by have := HS15.out; simp [k5]; omega)
              have H5 := Lib.hid hs5.1
              have HX5 := Lib.hid (HXD.out.same hs5.2.size (hs5.2.block xb HXD.out.lt (fun e => HXne.out.2.2.2.1 (by injection e with e; exact e.symm))))
              have HKR5 := Lib.hid ((HKR4.out.below (Below.refl _ _).drew).same hs5.2.size (hs5.2.block rb (HKR4.out.below (Below.refl _ _).drew).lt (fun e => HRo.out.2.2.2.1 (by injection e with e; exact e.symm))))
              have HSB5 := Lib.hid ((HSB4.out.trans (SBelow.of_below (Below.refl _ _).drew)).trans (SBelow.of_nodes (PBelow.of (B := S.gN) hs5.2 (.inr rfl))))
              have HTN5 := Lib.hid (HTN3.out.set nn s HKT.out)
              clear hs5
              refine hK.out _ (World.setCells w4.drew S.bN (nn * 80 + s * 5) (k5 0 y1 y2 y3 y4)) ⟨H5.out.f6, HX5.out.c0, HX5.out.c1, HX5.out.c2, HX5.out.c3, HX5.out.c4⟩ (fun hHeld => ?_)
              clear hK K
              (try simp only [Act.put, List.getElem_toArray, List.getElem_cons_succ, List.getElem_cons_zero, List.setIfInBounds_toArray, List.set_cons_zero, List.set_cons_succ])
              refine wpAnyH_done (by kernel_rfl) ?_ _
              refine NoPanic.normal ?_
              go_wp2_with fail
              go_roundw
              case rel => exact ⟨k + 1, nn3, np3, _, _, by have := hq.out; have := HQL.out; omega, (by congr 1; have := hq.out; omega), H5.out, by have := HG3.out; have := HN'.out; omega, HG3.out.2.1, HG3.out.2.2, HTN5.out, HSB5.out, HKR5.out⟩
              case measure => simp [intOf]; have := hq.out; have := HQL.out; omega
            · have xe : (y0 == 0) = false := by simp [hy2]
              have xe' : (y0 != 0) = true := by simp [hy2]
              have x0 := HX4.out.c0
              have x1 := HX4.out.c1
              have x2 := HX4.out.c2
              have x3 := HX4.out.c3
              have x4 := HX4.out.c4
              have xf3 := HX4.out.fr 3
              have xf4 := HX4.out.fr 4
              go_upto_region 25 with fail
              obtain ⟨w5, hw5⟩ : ∃ w5, w5 = w4.setCell ⟨xb, 3, none⟩ (.int .i64 4) := ⟨_, rfl⟩
              rw [← hw5]
              have H5a : Hid (SyAt w5 base S (td nn3 np3 wN3 wP3)) := Lib.hid (by rw [hw5]; exact H4.out.put xb ⟨HXne.out.1, HXne.out.2.1, HXne.out.2.2.1, HXne.out.2.2.2.1, HXne.out.2.2.2.2.1⟩ 3 _)
              have HX5a : Hid (KeyC w5 xb y0 y1 y2 4 y4) := Lib.hid (by rw [hw5]; exact HX4.out.set3 4)
              have HKR5a : Hid (KeyC w5 rb 0 0 0 0 0) := Lib.hid (by rw [hw5]; exact HKR4.out.same' (by simp) (set_heap _ _ _ _ _ HXne.out.2.2.2.2.2.1))
              have HSB5a : Hid (SBelow S w w5) := Lib.hid (by rw [hw5]; exact HSB4.out.put xb HXne.out.2.2.2.2.2.2 3 _)
              clear hw5 x0 x1 x2 x3 x4 xf3 xf4
              have HD : Hid (SyAt w5.drew base S (td nn3 np3 wN3 wP3)) := Lib.hid (H5a.out.below (Below.refl _ _).drew)
              have HXD : Hid (KeyC w5.drew xb y0 y1 y2 4 y4) := Lib.hid (HX5a.out.below (Below.refl _ _).drew)
              have HnS : Hid (nn < S.n ∧ nn < nn3) := Lib.hid (by have := HG3.out; have := HN'.out; omega)
              have HTh : Hid (World.there w5.drew S.bN (nn * 80 + s * 5) 5) := Lib.hid (fun j hj => by
                have h1 := HD.out.nkey nn (s * 5 + j) HnS.out.1 (by have := HS15.out; omega)
                rw [← Nat.add_assoc] at h1
                exact ⟨by rw [h1]; rfl, HD.out.nd.frozenAt _⟩)
              have b0 : (nn : Int) < S.n := by have := HnS.out.1; omega
              have sE := HSv.out
              refine wp_region_noPanic ?_
              refine wp_region_held_drew (S := fun w' => World.cell? w' ⟨S.x, 6, none⟩ = some (.slice (some ⟨S.bN, 0, none⟩) S.n S.n) ∧ World.cell? w' ⟨xb, 0, none⟩ = some (.int .i64 y0) ∧ World.cell? w' ⟨xb, 1, none⟩ = some (.int .i64 y1) ∧ World.cell? w' ⟨xb, 2, none⟩ = some (.int .i64 y2) ∧ World.cell? w' ⟨xb, 3, none⟩ = some (.int .i64 4) ∧ World.cell? w' ⟨xb, 4, none⟩ = some (.int .u32 y4)) (by kernel_rfl) ⟨HD.out.f6, HXD.out.c0, HXD.out.c1, HXD.out.c2, HXD.out.c3, HXD.out.c4⟩ (fun hHeld => ?_)
              refine wpAnyH_take (i := 0) (v := ?_) (by rfl) (by kernel_rfl) (by kernel_rfl) (by kernel_rfl) (fun _ _ _ h => h) (Or.inl ⟨by kernel_rfl, ?_⟩) (by assumption) ?_; rotate_left 1; (focus (intro w hSw; (try dsimp only at hSw); simp only [List.getElem_toArray, List.getElem_cons_succ, List.getElem_cons_zero]; all_goals go_simp; all_goals (try with_reducible rfl))); (try simp only [Act.put, List.getElem_toArray, List.getElem_cons_succ, List.getElem_cons_zero, List.setIfInBounds_toArray, List.set_cons_zero, List.set_cons_succ])
              refine wpAnyH_take (i := 1) (v := ?_) (by rfl) (by kernel_rfl) (by kernel_rfl) (by kernel_rfl) (fun _ _ _ h => h) (Or.inl ⟨by kernel_rfl, ?_⟩) (by assumption) ?_; rotate_left 1; (focus (intro w hSw; (try dsimp only at hSw); simp only [List.getElem_toArray, List.getElem_cons_succ, List.getElem_cons_zero]; all_goals go_simp; all_goals (try with_reducible rfl))); (try simp only [Act.put, List.getElem_toArray, List.getElem_cons_succ, List.getElem_cons_zero, List.setIfInBounds_toArray, List.set_cons_zero, List.set_cons_succ])
              refine wpAnyH_take (i := 2) (v := ?_) (by rfl) (by kernel_rfl) (by kernel_rfl) (by kernel_rfl) (fun _ _ _ h => h) (Or.inl ⟨by kernel_rfl, ?_⟩) (by assumption) ?_; rotate_left 1; (focus (intro w hSw; (try dsimp only at hSw); simp only [List.getElem_toArray, List.getElem_cons_succ, List.getElem_cons_zero]; all_goals go_simp; all_goals (try with_reducible rfl))); (try simp only [Act.put, List.getElem_toArray, List.getElem_cons_succ, List.getElem_cons_zero, List.setIfInBounds_toArray, List.set_cons_zero, List.set_cons_succ])
              refine wpAnyH_take (i := 3) (v := ?_) (by rfl) (by kernel_rfl) (by kernel_rfl) (by kernel_rfl) (fun _ _ _ h => h) (Or.inl ⟨by kernel_rfl, ?_⟩) (by assumption) ?_; rotate_left 1; (focus (intro w hSw; (try dsimp only at hSw); simp only [List.getElem_toArray, List.getElem_cons_succ, List.getElem_cons_zero]; all_goals go_simp; all_goals (try with_reducible rfl))); (try simp only [Act.put, List.getElem_toArray, List.getElem_cons_succ, List.getElem_cons_zero, List.setIfInBounds_toArray, List.set_cons_zero, List.set_cons_succ])
              refine wpAnyH_take (i := 4) (v := ?_) (by rfl) (by kernel_rfl) (by kernel_rfl) (by kernel_rfl) (fun _ _ _ h => h) (Or.inl ⟨by kernel_rfl, ?_⟩) (by assumption) ?_; rotate_left 1; (focus (intro w hSw; (try dsimp only at hSw); simp only [List.getElem_toArray, List.getElem_cons_succ, List.getElem_cons_zero]; all_goals go_simp; all_goals (try with_reducible rfl))); (try simp only [Act.put, List.getElem_toArray, List.getElem_cons_succ, List.getElem_cons_zero, List.setIfInBounds_toArray, List.set_cons_zero, List.set_cons_succ])
              refine wpAnyH_take (i := 5) (v := ?_) (by rfl) (by kernel_rfl) (by kernel_rfl) (by kernel_rfl) (fun _ _ _ h => h) (Or.inl ⟨by kernel_rfl, ?_⟩) (by assumption) ?_; rotate_left 1; (focus (intro w hSw; (try dsimp only at hSw); simp only [List.getElem_toArray, List.getElem_cons_succ, List.getElem_cons_zero]; all_goals go_simp; all_goals (try with_reducible rfl))); (try simp only [Act.put, List.getElem_toArray, List.getElem_cons_succ, List.getElem_cons_zero, List.setIfInBounds_toArray, List.set_cons_zero, List.set_cons_succ])
              refine wpAnyH_take (i := 6) (v := ?_) (by rfl) (by kernel_rfl) (by kernel_rfl) (by kernel_rfl) (fun _ _ _ h => h) (Or.inl ⟨by kernel_rfl, ?_⟩) (by assumption) ?_; rotate_left 1; (focus (intro w hSw; (try dsimp only at hSw); simp only [List.getElem_toArray, List.getElem_cons_succ, List.getElem_cons_zero]; all_goals go_simp; all_goals (try with_reducible rfl))); (try simp only [Act.put, List.getElem_toArray, List.getElem_cons_succ, List.getElem_cons_zero, List.setIfInBounds_toArray, List.set_cons_zero, List.set_cons_succ])
              refine wpAnyH_take (i := 7) (v := ?_) (by rfl) (by kernel_rfl) (by kernel_rfl) (by kernel_rfl) (fun _ _ _ h => h) (Or.inl ⟨by kernel_rfl, ?_⟩) (by assumption) ?_; rotate_left 1; (focus (intro w hSw; (try dsimp only at hSw); simp only [List.getElem_toArray, List.getElem_cons_succ, List.getElem_cons_zero]; all_goals go_simp; all_goals (try with_reducible rfl))); (try simp only [Act.put, List.getElem_toArray, List.getElem_cons_succ, List.getElem_cons_zero, List.setIfInBounds_toArray, List.set_cons_zero, List.set_cons_succ])
              refine wpAnyH_take (i := 8) (v := ?_) (by rfl) (by kernel_rfl) (by kernel_rfl) (by kernel_rfl) (fun _ _ _ h => h) (Or.inl ⟨by kernel_rfl, ?_⟩) (by assumption) ?_; rotate_left 1; (focus (intro w hSw; (try dsimp only at hSw); simp only [List.getElem_toArray, List.getElem_cons_succ, List.getElem_cons_zero]; all_goals go_simp; all_goals (try with_reducible rfl))); (try simp only [Act.put, List.getElem_toArray, List.getElem_cons_succ, List.getElem_cons_zero, List.setIfInBounds_toArray, List.set_cons_zero, List.set_cons_succ])
              refine wpAnyH_ready (rs := [9]) (by kernel_rfl) (by simp) ?_; refine AllReadyH.cons (by rfl) (fun K hK => ?_) AllReadyH.nil; rw [if_pos (by kernel_rfl)]; simp only [List.getElem_toArray, List.getElem_cons_succ, List.getElem_cons_zero]
              refine wp_store_mid _ _ _ (by rfl) S.bN (nn * 80 + s * 5) #[.int .i64 y0, .int .i64 y1, .int .i64 y2, .int .i64 4, .int .u32 y4] (by rfl) (by rfl) HTh.out infoKey5 (by simp [Value.oneCell']) ?_
              have hs5 := HD.out.keys nn (s * 5) HnS.out.1 (k5 y0 y1 y2 4 y4) (by have := HS15.out; simp [k5]; omega)
              have H5 := Lib.hid hs5.1
              have HX5 := Lib.hid (HXD.out.same hs5.2.size (hs5.2.block xb HXD.out.lt (fun e => HXne.out.2.2.2.1 (by injection e with e; exact e.symm))))
              have HKR5 := Lib.hid ((HKR5a.out.below (Below.refl _ _).drew).same hs5.2.size (hs5.2.block rb (HKR5a.out.below (Below.refl _ _).drew).lt (fun e => HRo.out.2.2.2.1 (by injection e with e; exact e.symm))))
              have HSB5 := Lib.hid ((HSB5a.out.trans (SBelow.of_below (Below.refl _ _).drew)).trans (SBelow.of_nodes (PBelow.of (B := S.gN) hs5.2 (.inr rfl))))
              have HTN5 := Lib.hid (HTN3.out.set nn s (y3 := 4) ⟨HKT.out.k, HKT.out.i, HKT.out.v, .inr (.inr rfl), HKT.out.d⟩)
              clear hs5
              refine hK.out _ (World.setCells w5.drew S.bN (nn * 80 + s * 5) (k5 y0 y1 y2 4 y4)) ⟨H5.out.f6, HX5.out.c0, HX5.out.c1, HX5.out.c2, HX5.out.c3, HX5.out.c4⟩ (fun hHeld => ?_)
              clear hK K
              (try simp only [Act.put, List.getElem_toArray, List.getElem_cons_succ, List.getElem_cons_zero, List.setIfInBounds_toArray, List.set_cons_zero, List.set_cons_succ])
              refine wpAnyH_done (by kernel_rfl) ?_ _
              refine NoPanic.normal ?_
              go_wp2_with fail
              go_roundw
              case rel => exact ⟨k + 1, nn3, np3, _, _, by have := hq.out; have := HQL.out; omega, (by congr 1; have := hq.out; omega), H5.out, by have := HG3.out; have := HN'.out; omega, HG3.out.2.1, HG3.out.2.2, HTN5.out, HSB5.out, HKR5.out⟩
              case measure => simp [intOf]; have := hq.out; have := HQL.out; omega
      · by_cases h1 : q + 1 < L
        · have l1 : (q : Int) + 1 < L := by omega
          have l2 : ¬ (q : Int) < 8 := by omega
          clear hlt h1
          have HT0 : Hid ((td nn' np' wN' wP').lN nn = true) := Lib.hid (by have := HN'.out; simp [td, ltB]; omega)
          have HV0 : Hid ((td nn' np' wN' wP').vN nn = 0) := Lib.hid rfl
          go_wp2_with (first
            | (go_at_call 72; (with_reducible refine (syskey_node_at (nn : Int) nn (Lib.hid rfl) HNn.out HT0 0 HV0 _ HR.out).mono ?_); rintro e w5 ⟨rfl, hb⟩; have H5 := Lib.hid (HR.out.below hb); have HSB5 := Lib.hid (HSB.out.trans (SBelow.of_below hb)); have HK5 := Lib.hid (HKR.out.below hb); have HKA := Lib.hid (fun o => HK5.out.below ((Below.refl _ _).alloc (Nat.le_refl _) _ : Below w5.heap.size w5 (w5.alloc o))); have hne : ¬ rb = w5.heap.size := (by have := HK5.out.lt; omega); have y0 := fun o => (HKA.out o).c0; have y1 := fun o => (HKA.out o).c1; have y2 := fun o => (HKA.out o).c2; have y3 := fun o => (HKA.out o).c3; have y4 := fun o => (HKA.out o).c4; have g0 := fun o => (HKA.out o).fr 0; have g1 := fun o => (HKA.out o).fr 1; have g2 := fun o => (HKA.out o).fr 2; have g3 := fun o => (HKA.out o).fr 3; have g4 := fun o => (HKA.out o).fr 4; clear hb))
          have t := (HKA.out (.cells #[.int .i64 2, .int .i64 nn, .int .i64 0, .int .i64 0, .int .u32 ht] 29 (0, 0))).set 2 nn 0 0 ht
          have t0 := t.c0
          have t1' := t.c1
          have t2 := t.c2
          have t3 := t.c3
          have t4' := t.c4
          refine bodyPost_ret (v := .agg #[.int .i64 2, .int .i64 nn, .int .i64 0, .int .i64 0, .int .u32 ht]) (by simp [results, Tryd.results41, go_sem, t0, t1', t2, t3, t4']) rfl ⟨2, nn, 0, 0, ht, nn', np', wN', wP', rfl, ⟨.inr (.inl rfl), by have := HNn.out; have := hSn.out; omega, rfl, .inl rfl, by omega⟩, by have := HN'.out; omega, HN'.out.2.1, HN'.out.2.2, ?_, HTN.out, ?_⟩
          · exact sy_set5 (H5.out.below ((Below.refl _ _).alloc (Nat.le_refl _) _)) rb HRo.out _ _ _ _ _
          · exact (HSB5.out.trans (SBelow.of_below ((Below.refl _ _).alloc (Nat.le_refl _) _))).put5 rb (Nat.le_of_eq hrb.out) _ _ _ _ _
        · have l1 : ¬ (q : Int) + 1 < L := by omega
          clear hlt h1
          have HT0 : Hid ((td nn' np' wN' wP').lN nn = true) := Lib.hid (by have := HN'.out; simp [td, ltB]; omega)
          have HV0 : Hid ((td nn' np' wN' wP').vN nn = 0) := Lib.hid rfl
          go_wp2_with (first
            | (go_at_call 72; (with_reducible refine (syskey_node_at (nn : Int) nn (Lib.hid rfl) HNn.out HT0 0 HV0 _ HR.out).mono ?_); rintro e w5 ⟨rfl, hb⟩; have H5 := Lib.hid (HR.out.below hb); have HSB5 := Lib.hid (HSB.out.trans (SBelow.of_below hb)); have HK5 := Lib.hid (HKR.out.below hb); have HKA := Lib.hid (fun o => HK5.out.below ((Below.refl _ _).alloc (Nat.le_refl _) _ : Below w5.heap.size w5 (w5.alloc o))); have hne : ¬ rb = w5.heap.size := (by have := HK5.out.lt; omega); have y0 := fun o => (HKA.out o).c0; have y1 := fun o => (HKA.out o).c1; have y2 := fun o => (HKA.out o).c2; have y3 := fun o => (HKA.out o).c3; have y4 := fun o => (HKA.out o).c4; have g0 := fun o => (HKA.out o).fr 0; have g1 := fun o => (HKA.out o).fr 1; have g2 := fun o => (HKA.out o).fr 2; have g3 := fun o => (HKA.out o).fr 3; have g4 := fun o => (HKA.out o).fr 4; clear hb))
          have t := (HKA.out (.cells #[.int .i64 2, .int .i64 nn, .int .i64 0, .int .i64 0, .int .u32 ht] 29 (0, 0))).set 2 nn 0 0 ht
          have t0 := t.c0
          have t1' := t.c1
          have t2 := t.c2
          have t3 := t.c3
          have t4' := t.c4
          refine bodyPost_ret (v := .agg #[.int .i64 2, .int .i64 nn, .int .i64 0, .int .i64 0, .int .u32 ht]) (by simp [results, Tryd.results41, go_sem, t0, t1', t2, t3, t4']) rfl ⟨2, nn, 0, 0, ht, nn', np', wN', wP', rfl, ⟨.inr (.inl rfl), by have := HNn.out; have := hSn.out; omega, rfl, .inl rfl, by omega⟩, by have := HN'.out; omega, HN'.out.2.1, HN'.out.2.2, ?_, HTN.out, ?_⟩
          · exact sy_set5 (H5.out.below ((Below.refl _ _).alloc (Nat.le_refl _) _)) rb HRo.out _ _ _ _ _
          · exact (HSB5.out.trans (SBelow.of_below ((Below.refl _ _).alloc (Nat.le_refl _) _))).put5 rb (Nat.le_of_eq hrb.out) _ _ _ _ _
theorem tree_any {S : SyS} {base : Nat} (hSn : S.n ≤ 256 ∧ S.m ≤ 256) : ∀ h : Nat, h ≤ 4 → TreeOk S base h
  | 0, _ => tree_0 hSn.2
  | h + 1, hh => tree_s (by omega) (Lib.hid hSn) (Lib.hid (tree_any hSn h (by omega))) (Lib.hid (tree_0 hSn.2))
end Go.Proofs.YtedidopkemjgeaaDoor
namespace Go.Proofs.YtedidopkemjgeaaDoor
open Go.ChangeShapes Go.WideShapes Go.ChangeAt Go.RowKit
set_option linter.unusedVariables false
set_option linter.unusedSimpArgs false
theorem NodesT.all16 {W : Nat → Nat → Value} {nn i : Nat} (h : NodesT W nn) (hi : i < nn) : All16 (W i) := fun j hj => by
  obtain ⟨y0, y1, y2, y3, y4, h1, _⟩ := h i hi j hj
  exact ⟨y0, y1, y2, y3, y4, h1⟩
theorem NodesT.fresh {W : Nat → Nat → Value} {nn : Nat} (h : NodesT W nn) : NodesT (freshV W nn (kcs (fun _ _ => 0) 0)) (nn + 1) := fun q hq j hj => by
  by_cases e : q = nn
  · subst e; exact ⟨0, 0, 0, 0, 0, freshV_nokey W q _ 0 j (Nat.zero_le _) hj, KeyT.void⟩
  · obtain ⟨x0, x1, x2, x3, x4, h1, hk⟩ := h q (by omega) j hj
    exact ⟨x0, x1, x2, x3, x4, freshV_rest W nn _ q j e h1, hk⟩
set_option maxRecDepth 100000 in
set_option maxHeartbeats 1000000 in
theorem nset_bad {base P p B G n c : Nat} {th : Nat → Bool} {vr_ : Nat → Int} {W : Nat → Nat → Value} (z1 z2 z : Addr) (k s : Nat) (hk : k < n) (hs : s < 16) (ht : Hid (th k = true)) (y0 y1 y2 y3 y4 : Int) (hy : Hid (kErr (eV z1) (eV z2) y0 y1 y2 y3 y4 = eV z)) (w : World) (hE : ErrsAt (eV z1) (eV z2) w) (h : NdAt w base P p B G n c th vr_ W) :
    Calls Tryd.prog 19 #[.pointer (some ⟨P, 0, none⟩), .int .i64 k, .int .i64 s, (Value.agg #[.int .i64 y0, .int .i64 y1, .int .i64 y2, .int .i64 y3, .int .u32 y4])] w fun e w' => e = .returned (eV z) ∧ Below w.heap.size w w' := by
  have H := Lib.hid h
  have HE := Lib.hid hE
  have hlP := h.pl
  have up : ∀ (X : Obj) (b o : Nat) (v : Value), b < w.heap.size → w.cell? ⟨b, o, none⟩ = some v → (w.alloc X).cell? ⟨b, o, none⟩ = some v := fun X b o v hb hv => (World.cell?_alloc_lt w X ⟨b, o, none⟩ hb).trans hv
  have f0 : ∀ X, (w.alloc X).cell? ⟨P, 0, none⟩ = _ := fun X => up X P 0 _ hlP h.f0
  have a0 : (0 : Int) ≤ s := by omega
  have a1 : (s : Int) < 16 := by omega
  have k0 : (0 : Int) ≤ k := by omega
  have k1 : (k : Int) < n := by omega
  have HSl : Hid (∀ u : World, Calls Tryd.prog 49 #[.int .i64 s] u fun e w' => e = .returned (.bool true) ∧ u = w') := Lib.hid (fun u => by
    go_enter Tryd.func49, Tryd.ntmps49
    go_wp2
    go_ret
    exact ⟨rfl, rfl⟩)
  clear h hE up hlP
  go_enter Tryd.func19, Tryd.ntmps19
  go_wp2_with (first
    | (go_at_call 48; (with_reducible refine (athere_in k hk true ht _ (H.out.below ((Below.refl _ _).alloc (Nat.le_refl _) _)).ar).mono ?_); rintro e w1 ⟨rfl, rfl⟩)
    | (go_at_call 49; (with_reducible refine (HSl.out _).mono ?_); rintro e w1 ⟨rfl, rfl⟩)
    | (go_at_call 50; (with_reducible refine (nvalid_bad y0 y1 y2 y3 y4 (eV z1) (eV z2) z hy _ (HE.out.below ((Below.refl _ _).alloc (Nat.le_refl _) _))).mono ?_); rintro e w1 ⟨rfl, hb⟩; have HB := Lib.hid hb; clear hb f0))
  go_ret
  exact ⟨rfl, ((Below.refl _ _).alloc (Nat.le_refl _) _ : Below w.heap.size w _).trans (HB.out.mono (by simp))⟩
theorem kerr_cases (z1 z2 : Addr) (y0 y1 y2 y3 y4 : Int) : rightB y0 y1 y2 y3 y4 = true ∨ ∃ z, kErr (eV z1) (eV z2) y0 y1 y2 y3 y4 = eV z := by
  unfold kErr
  by_cases h : rightB y0 y1 y2 y3 y4 = true
  · exact .inl h
  · rw [if_neg h]
    split
    · exact .inr ⟨z2, rfl⟩
    · exact .inr ⟨z1, rfl⟩
theorem nset_any {base P p B G n c : Nat} {th : Nat → Bool} {vr_ : Nat → Int} {W : Nat → Nat → Value} (z1 z2 : Addr) (k s : Nat) (hk : k < n) (hs : s < 16) (ht : Hid (th k = true)) (y0 y1 y2 y3 y4 : Int) (w : World) (hE : ErrsAt (eV z1) (eV z2) w) (h : NdAt w base P p B G n c th vr_ W) (hcell : Hid (∀ j, j < 80 → (W k j).oneCell' = true)) :
    Calls Tryd.prog 19 #[.pointer (some ⟨P, 0, none⟩), .int .i64 k, .int .i64 s, (Value.agg #[.int .i64 y0, .int .i64 y1, .int .i64 y2, .int .i64 y3, .int .u32 y4])] w fun e w' => ∃ v W', e = .returned v ∧ NdAt w' base P p B G n c th vr_ W' ∧ PBelow w w' B G ∧ (W' = W ∨ W' = updV W k (s * 5) (k5 y0 y1 y2 y3 y4)) := by
  rcases kerr_cases z1 z2 y0 y1 y2 y3 y4 with hy | ⟨z, hz⟩
  · refine (nset_ok (eV z1) (eV z2) k s hk hs ht y0 y1 y2 y3 y4 (Lib.hid hy) w hE h hcell).mono ?_
    rintro e w' ⟨rfl, h1, h2⟩
    exact ⟨_, _, rfl, h1, h2, .inr rfl⟩
  · refine (nset_bad z1 z2 z k s hk hs ht y0 y1 y2 y3 y4 (Lib.hid hz) w hE h).mono ?_
    rintro e w' ⟨rfl, hb⟩
    exact ⟨_, _, rfl, h.below hb, PBelow.of_below hb, .inl rfl⟩
theorem tree_run {S : SyS} {base : Nat} (hSn : S.n ≤ 256 ∧ S.m ≤ 256) (h : Nat) (h4 : h ≤ 4) (hi : Int) (hh : hi = h) (a : Option Addr) (L c nn np : Nat) (f : Nat → Int) (wN : Nat → Nat → Value) (wP : Nat → Nat → Int) (w : World) (hL : L ≤ 20) (hc : L ≤ c) (hs : SyAt w base S (td nn np wN wP)) (hn : nn ≤ S.n) (hp : np ≤ S.m) (hN : NodesT wN nn) (hl : LI S w a L f) :
    Calls Tryd.prog 41 #[.pointer (some ⟨S.x, 0, none⟩), .int .i64 hi, .slice a L c] w fun e w' => ∃ y0 y1 y2 y3 y4 nn' np' wN' wP', e = .returned (.agg #[.int .i64 y0, .int .i64 y1, .int .i64 y2, .int .i64 y3, .int .u32 y4]) ∧ KeyT y0 y1 y2 y3 y4 ∧ nn ≤ nn' ∧ nn' ≤ S.n ∧ np' ≤ S.m ∧ SyAt w' base S (td nn' np' wN' wP') ∧ NodesT wN' nn' ∧ SBelow S w w' :=
  tree_any hSn h h4 hi hh a L c nn np f wN wP w hL hc hs hn hp hN hl
theorem li_of {S : SyS} {w w1 : World} {la : Option Addr} {L : Nat} {f : Nat → Int} (hl : ∀ j, j < L → ∃ ad : Addr, la = some ad ∧ ad.block < w.heap.size ∧ w.cell? (ad.add j) = some (.int .i64 (f j))) (hb : Below w.heap.size w w1) (hs : w.heap.size + 1 ≤ S.gN ∧ w.heap.size + 1 ≤ S.gP ∧ w.heap.size + 1 ≤ S.bN ∧ w.heap.size + 1 ≤ S.bP) : LI S w1 la L f := fun j hj => by
  obtain ⟨ad, h1, h2, h3⟩ := hl j hj
  exact ⟨ad, h1, Nat.lt_of_lt_of_le h2 hb.size, by omega, (hb.cell (p := ad.add j) (by rw [add_block']; exact h2)).trans h3⟩
theorem nodes_0 (W : Nat → Nat → Value) : NodesT W 0 := fun i hi => by omega
theorem td_0 (wN : Nat → Nat → Value) (wP : Nat → Nat → Int) : td 0 0 wN wP = ⟨fun _ => false, fun _ => false, fun _ => 0, fun _ => -1, fun _ => false, fun _ => false, fun _ => 0, fun _ => -1, wN, wP⟩ := by unfold td; rw [ltB_0]
set_option maxRecDepth 100000 in
set_option maxHeartbeats 16000000 in
theorem madeN_is (ht : Int) (h : Nat) (hht : Hid (ht = h)) (h4 : h ≤ 4) (la : Option Addr) (L c : Nat) (f : Nat → Int) (hLc : Hid (L ≤ 20 ∧ L ≤ c)) (z1 z2 : Addr) (w : World) (hE : ErrsAt (eV z1) (eV z2) w) (hl : Hid (∀ j, j < L → ∃ ad : Addr, la = some ad ∧ ad.block < w.heap.size ∧ w.cell? (ad.add j) = some (.int .i64 (f j)))) :
    Calls Tryd.prog 14 #[.int .i64 ht, .slice la L c] w fun e w' => ∃ S a b W W2 k0 k1 k2 k3 k4 nn np, e = .returned (.tuple #[.pointer (some ⟨S, 0, none⟩), .agg #[.int .i64 k0, .int .i64 k1, .int .i64 k2, .int .i64 k3, .int .u32 k4]]) ∧ SV w w' S a b (ltB nn) (fun _ => 0) W (ltB np) (fun _ => 0) W2 ∧ Hid (NodesT W nn) ∧ Hid (KeyT k0 k1 k2 k3 k4) ∧ Hid (a.n = 16 ∧ b.n = 16 ∧ nn ≤ 16 ∧ np ≤ 16) := by
  have HE := Lib.hid hE
  clear hE
  go_enter Tryd.func14, Tryd.ntmps14
  go_upto_region 6 with (first
    | (go_at_call 40; (with_reducible refine (small_is 16 16 16 16 (Lib.hid ⟨rfl, rfl⟩) (by decide) (by decide) (by decide) (by decide) _).mono ?_); rintro e w1 ⟨Y, rfl, hs, hn', hb⟩; have HY := Lib.hid hs; have HN := Lib.hid hn'.out; have HK1 : Hid (KeyC w1 w.heap.size 0 0 0 0 0) := Lib.hid ((KeyC.new w 0 0 0 0 0 29).below hb); have B1 := Lib.hid (((Below.refl _ _).alloc (Nat.le_refl _) _ : Below w.heap.size w _).trans (hb.mono (by simp))); have HSep : Hid (w.heap.size + 1 ≤ Y.gN ∧ w.heap.size + 1 ≤ Y.gP ∧ w.heap.size + 1 ≤ Y.bN ∧ w.heap.size + 1 ≤ Y.bP) := Lib.hid (by have h1 := (hs.ns.lt Y.gN rfl).1; have h2 := (hs.ps.lt Y.gP rfl).1; have h3 := (hs.nd.lt Y.bN rfl).1; have h4 := (hs.pg.lt Y.bP rfl).1; simp at h1 h2 h3 h4; omega); clear hs hb hn')
    | (go_at_call 41; (with_reducible refine (tree_run (by have := HN.out; omega) h h4 ht hht.out la L c 0 0 f _ _ _ hLc.out.1 hLc.out.2 (by rw [td_0]; exact HY.out) (Nat.zero_le _) (Nat.zero_le _) (nodes_0 _) (li_of hl.out B1.out HSep.out)).mono ?_); rintro e w2 ⟨k0, k1, k2, k3, k4, nn, np, wN, wP, rfl, hkt, _, g1, g2, hs, hnt, hp⟩; have HY2 := Lib.hid hs; have HKT := Lib.hid hkt; have HPG := Lib.hid hnt; have HGG := Lib.hid (And.intro g1 g2); have B2 := Lib.hid (B1.out.trans (hp.below B1.out.size (by have := HSep.out; omega) (by have := HSep.out; omega) (by have := HSep.out; omega) (by have := HSep.out; omega))); have HK2 : Hid (KeyC w2 w.heap.size 0 0 0 0 0) := Lib.hid (HK1.out.same hp.2.2.2.1 (hp.2.2.2.2 w.heap.size HK1.out.lt (by have := HSep.out; omega) (by have := HSep.out; omega) (by have := HSep.out; omega) (by have := HSep.out; omega))); clear hs hnt hp hkt g1 g2)
    | (go_at_call 24; (with_reducible refine (snew_ok 16 16 16 16 (Lib.hid rfl) (Lib.hid rfl) (by decide) (by decide) (by decide) (by decide) _).mono ?_); rintro e w4 ⟨S, a, b, rfl, hs, hn', hb⟩; have HM := Lib.hid hn'.out; have HS := Lib.hid hs; have B4 := Lib.hid hb; clear hs hn' hb))
  obtain ⟨wA, hwA⟩ : ∃ wA, wA = w2.alloc (.cells #[.int .i64 k0, .int .i64 k1, .int .i64 k2, .int .i64 k3, .int .u32 k4] 29 (0, 0)) := ⟨_, rfl⟩
  rw [← hwA] at HM B4
  obtain ⟨D, HD⟩ : ∃ D : SyD, Hid (D = td nn np wN wP) := ⟨_, Lib.hid rfl⟩
  have HYA : Hid (SyAt wA (w.heap.size + 1) Y D) := Lib.hid (by rw [hwA, HD.out]; have := HY2.out.below ((Below.refl _ _).alloc (Nat.le_refl _) _ : Below w2.heap.size w2 (w2.alloc (.cells #[.int .i64 k0, .int .i64 k1, .int .i64 k2, .int .i64 k3, .int .u32 k4] 29 (0, 0)))); rw [show (w.alloc (.cells #[.int .i64 0, .int .i64 0, .int .i64 0, .int .i64 0, .int .u32 0] 29 (0, 0))).heap.size = w.heap.size + 1 by simp] at this; exact this)
  have HKA : Hid (KeyC wA w2.heap.size k0 k1 k2 k3 k4) := Lib.hid (by rw [hwA]; exact KeyC.new _ _ _ _ _ _ _)
  have HK0 : Hid (KeyC wA w.heap.size 0 0 0 0 0) := Lib.hid (by rw [hwA]; exact HK2.out.below ((Below.refl _ _).alloc (Nat.le_refl _) _))
  have BA : Hid (Below w.heap.size w wA) := Lib.hid (by rw [hwA]; exact B2.out.alloc B2.out.size _)
  have HSV : Hid (SV wA w4 S a b (fun _ => false) (fun _ => 0) (fun _ b => zc b) (fun _ => false) (fun _ => 0) (fun _ _ => 0)) := Lib.hid ⟨B4.out, Nat.le_of_eq HM.out.2.2.symm, HS.out⟩
  obtain ⟨kb, Hkb⟩ : ∃ kb, Hid (w2.heap.size = kb) := ⟨_, Lib.hid rfl⟩
  rw [Hkb.out] at HKA ⊢
  have HLP : Hid (∀ i, D.lP i = decide (i < np)) := Lib.hid (fun i => by rw [HD.out]; rfl)
  have HLN : Hid (∀ i, D.lN i = decide (i < nn)) := Lib.hid (fun i => by rw [HD.out]; rfl)
  have HWN : Hid (NodesT D.wN nn) := Lib.hid (by rw [HD.out]; exact HPG.out)
  have HNn : Hid (nn ≤ 16 ∧ np ≤ 16) := Lib.hid (by have := HGG.out; have := HN.out; omega)
  clear hwA HY HK1 B1 HY2 B2 HK2 HS HD HPG B4
  go_wp2_with fail
  go_loopw [10] (fun z wr => ∃ (k : Nat) (W2 : Nat → Nat → Int), k ≤ 16 ∧ z = .int .i64 k ∧ SV wA wr S a b (fun _ => false) (fun _ => 0) (fun _ b => zc b) (ltB (min k np)) (fun _ => 0) W2) (fun z _ => 16 - (intOf z).toNat)
  case atStart => exact ⟨0, fun _ _ => 0, by omega, rfl, by rw [Nat.zero_min, ltB_0]; exact HSV.out⟩
  case round =>
    obtain ⟨k, W2, hk, rfl, hs⟩ := hrel
    have HR := Lib.hid hs
    have HYR := Lib.hid (HYA.out.below hs.bel)
    have f0 := HYR.out.f0
    have f1 := HYR.out.f1
    clear hs
    by_cases hlt : k < 16
    · have k0 : (0 : Int) ≤ k := by omega
      have k1 : (k : Int) < Y.m := by have := HN.out; omega
      have km : k < Y.m := by omega
      have c0 := (HYR.out.pslot k km).1
      rw [HLP.out] at c0
      by_cases hkn : k < np
      · have e : decide (k < np) = true := decide_eq_true hkn
        rw [e] at c0
        have HTH : Hid (ltB (min k np) = ltB k) := Lib.hid (by rw [Nat.min_eq_left (by omega)])
        have HTS : Hid (upd (ltB k) k true = ltB (min (k + 1) np)) := Lib.hid (by rw [Nat.min_eq_left (by omega), ltB_s])
        have HRD := Lib.hid (HR.out.step (Below.refl wr.heap.size wr).drew)
        have HYD := Lib.hid (HYR.out.below (Below.refl wr.heap.size wr).drew)
        have HSrc : Hid (SrcU wr.drew (some ⟨Y.bP, k * 32, none⟩) ((List.range 32).map (D.wP k)) b.B b.G) := Lib.hid (srcu_page HYD.out k km _ rfl _ _ (by have h1 := (HYA.out.pg.lt Y.bP rfl).2; have h2 := HR.out.wb; have h3 := HR.out.st.ab; have h4 := HR.out.st.pg.ar.lt.1; omega) (by have h1 := (HYA.out.pg.lt Y.bP rfl).2; have h2 := HR.out.wb; have h3 := HR.out.st.ab; have h4 := (HR.out.st.pg.row.lt b.G rfl).1; omega))
        have hkn' := Lib.hid hkn
        have HKB : Hid (k < b.n) := Lib.hid (by have := HM.out; omega)
        have HYB : Hid (∀ X, Below wA.heap.size wA X → World.cell? X ⟨Y.x, 7, none⟩ = some (.slice (some ⟨Y.bP, 0, none⟩) Y.m Y.m)) := Lib.hid (fun X hX => (HYA.out.below hX).f7)
        clear e hkn
        go_wp2_with fail
        refine wp_region_noPanic ?_
        refine wp_region_held_drew (S := fun w' => World.cell? w' ⟨S, 1, none⟩ = some (.pointer (some ⟨b.P, 0, none⟩)) ∧ World.cell? w' ⟨Y.x, 7, none⟩ = some (.slice (some ⟨Y.bP, 0, none⟩) Y.m Y.m)) (by kernel_rfl) ⟨HRD.out.st.s1, HYB.out _ HRD.out.bel⟩ (fun hHeld => ?_)
        refine wpAnyH_take (i := 0) (v := ?_) (by rfl) (by kernel_rfl) (by kernel_rfl) (by kernel_rfl) (fun _ _ _ h => h) (Or.inl ⟨by kernel_rfl, ?_⟩) (by assumption) ?_; rotate_left 1; (focus (intro w hSw; (try dsimp only at hSw); simp only [List.getElem_toArray, List.getElem_cons_succ, List.getElem_cons_zero]; all_goals go_simp; all_goals (try with_reducible rfl))); (try simp only [Act.put, List.getElem_toArray, List.getElem_cons_succ, List.getElem_cons_zero, List.setIfInBounds_toArray, List.set_cons_zero, List.set_cons_succ])
        refine wpAnyH_take (i := 1) (v := ?_) (by rfl) (by kernel_rfl) (by kernel_rfl) (by kernel_rfl) (fun _ _ _ h => h) (Or.inl ⟨by kernel_rfl, ?_⟩) (by assumption) ?_; rotate_left 1; (focus (intro w hSw; (try dsimp only at hSw); simp only [List.getElem_toArray, List.getElem_cons_succ, List.getElem_cons_zero]; all_goals go_simp; all_goals (try with_reducible rfl))); (try simp only [Act.put, List.getElem_toArray, List.getElem_cons_succ, List.getElem_cons_zero, List.setIfInBounds_toArray, List.set_cons_zero, List.set_cons_succ])
        refine wpAnyH_take (i := 2) (v := ?_) (by rfl) (by kernel_rfl) (by kernel_rfl) (by kernel_rfl) (fun _ _ _ h => h) (Or.inl ⟨by kernel_rfl, ?_⟩) (by assumption) ?_; rotate_left 1; (focus (intro w hSw; (try dsimp only at hSw); simp only [List.getElem_toArray, List.getElem_cons_succ, List.getElem_cons_zero]; all_goals go_simp; all_goals (try with_reducible rfl))); (try simp only [Act.put, List.getElem_toArray, List.getElem_cons_succ, List.getElem_cons_zero, List.setIfInBounds_toArray, List.set_cons_zero, List.set_cons_succ])
        refine wpAnyH_take (i := 3) (v := ?_) (by rfl) (by kernel_rfl) (by kernel_rfl) (by kernel_rfl) (fun _ _ _ h => h) (Or.inl ⟨by kernel_rfl, ?_⟩) (by assumption) ?_; rotate_left 1; (focus (intro w hSw; (try dsimp only at hSw); simp only [List.getElem_toArray, List.getElem_cons_succ, List.getElem_cons_zero]; all_goals go_simp; all_goals (try with_reducible rfl))); (try simp only [Act.put, List.getElem_toArray, List.getElem_cons_succ, List.getElem_cons_zero, List.setIfInBounds_toArray, List.set_cons_zero, List.set_cons_succ])
        refine wpAnyH_take (i := 4) (v := ?_) (by rfl) (by kernel_rfl) (by kernel_rfl) (by kernel_rfl) (fun _ _ _ h => h) (Or.inl ⟨by kernel_rfl, ?_⟩) (by assumption) ?_; rotate_left 1; (focus (intro w hSw; (try dsimp only at hSw); simp only [List.getElem_toArray, List.getElem_cons_succ, List.getElem_cons_zero]; all_goals go_simp; all_goals (try with_reducible rfl))); (try simp only [Act.put, List.getElem_toArray, List.getElem_cons_succ, List.getElem_cons_zero, List.setIfInBounds_toArray, List.set_cons_zero, List.set_cons_succ])
        refine wpAnyH_take (i := 5) (v := ?_) (by rfl) (by kernel_rfl) (by kernel_rfl) (by kernel_rfl) (fun _ _ _ h => h) (Or.inl ⟨by kernel_rfl, ?_⟩) (by assumption) ?_; rotate_left 1; (focus (intro w hSw; (try dsimp only at hSw); simp only [List.getElem_toArray, List.getElem_cons_succ, List.getElem_cons_zero]; all_goals go_simp; all_goals (try with_reducible rfl))); (try simp only [Act.put, List.getElem_toArray, List.getElem_cons_succ, List.getElem_cons_zero, List.setIfInBounds_toArray, List.set_cons_zero, List.set_cons_succ])
        refine wpAnyH_take (i := 6) (v := ?_) (by rfl) (by kernel_rfl) (by kernel_rfl) (by kernel_rfl) (fun _ _ _ h => h) (Or.inl ⟨by kernel_rfl, ?_⟩) (by assumption) ?_; rotate_left 1; (focus (intro w hSw; (try dsimp only at hSw); simp only [List.getElem_toArray, List.getElem_cons_succ, List.getElem_cons_zero]; all_goals go_simp; all_goals (try with_reducible rfl))); (try simp only [Act.put, List.getElem_toArray, List.getElem_cons_succ, List.getElem_cons_zero, List.setIfInBounds_toArray, List.set_cons_zero, List.set_cons_succ])
        refine wpAnyH_take (i := 7) (v := ?_) (by rfl) (by kernel_rfl) (by kernel_rfl) (by kernel_rfl) (fun _ _ _ h => h) (Or.inl ⟨by kernel_rfl, ?_⟩) (by assumption) ?_; rotate_left 1; (focus (intro w hSw; (try dsimp only at hSw); simp only [List.getElem_toArray, List.getElem_cons_succ, List.getElem_cons_zero]; all_goals go_simp; all_goals (try with_reducible rfl))); (try simp only [Act.put, List.getElem_toArray, List.getElem_cons_succ, List.getElem_cons_zero, List.setIfInBounds_toArray, List.set_cons_zero, List.set_cons_succ])
        refine wpAnyH_take (i := 8) (v := ?_) (by rfl) (by kernel_rfl) (by kernel_rfl) (by kernel_rfl) (fun _ _ _ h => h) (Or.inl ⟨by kernel_rfl, ?_⟩) (by assumption) ?_; rotate_left 1; (focus (intro w hSw; (try dsimp only at hSw); simp only [List.getElem_toArray, List.getElem_cons_succ, List.getElem_cons_zero]; all_goals go_simp; all_goals (try with_reducible rfl))); (try simp only [Act.put, List.getElem_toArray, List.getElem_cons_succ, List.getElem_cons_zero, List.setIfInBounds_toArray, List.set_cons_zero, List.set_cons_succ])
        refine wpAnyH_take (i := 9) (v := ?_) (by rfl) (by kernel_rfl) (by kernel_rfl) (by kernel_rfl) (fun _ _ _ h => h) (Or.inl ⟨by kernel_rfl, ?_⟩) (by assumption) ?_; rotate_left 1; (focus (intro w hSw; (try dsimp only at hSw); simp only [List.getElem_toArray, List.getElem_cons_succ, List.getElem_cons_zero]; all_goals go_simp; all_goals (try with_reducible rfl))); (try simp only [Act.put, List.getElem_toArray, List.getElem_cons_succ, List.getElem_cons_zero, List.setIfInBounds_toArray, List.set_cons_zero, List.set_cons_succ])
        refine wpAnyH_take (i := 10) (v := ?_) (by rfl) (by kernel_rfl) (by kernel_rfl) (by kernel_rfl) (fun _ _ _ h => h) (Or.inl ⟨by kernel_rfl, ?_⟩) (by assumption) ?_; rotate_left 1; (focus (intro w hSw; (try dsimp only at hSw); simp only [List.getElem_toArray, List.getElem_cons_succ, List.getElem_cons_zero]; all_goals go_simp; all_goals (try with_reducible rfl))); (try simp only [Act.put, List.getElem_toArray, List.getElem_cons_succ, List.getElem_cons_zero, List.setIfInBounds_toArray, List.set_cons_zero, List.set_cons_succ])
        refine wpAnyH_ready (rs := [11]) (by kernel_rfl) (by simp) ?_; refine AllReadyH.cons (by rfl) (fun K hK => ?_) AllReadyH.nil; rw [if_pos (by kernel_rfl)]; simp only [List.getElem_toArray, List.getElem_cons_succ, List.getElem_cons_zero]
        go_wp2_with (first | (go_at_call 26; (with_reducible refine (pmake_at k (some ⟨Y.bP, k * 32, none⟩) 32 32 _ (Lib.hid (by simp)) (by decide) k (Lib.hid rfl) HKB.out (Lib.hid (by rw [HTH.out]; simp [freeB, ltB])) (Lib.hid (by intro i hi; rw [HTH.out]; simp [freeB, ltB, hi])) 0 (Lib.hid rfl) _ HRD.out.st.pg HSrc.out).mono ?_); rintro e w5 ⟨rfl, hP, hb⟩; have HP5 := Lib.hid (HRD.out.page hP hb); clear hP hb))
        refine hK.out _ _ ⟨HP5.out.st.s1, HYB.out _ HP5.out.bel⟩ (fun hHeld => ?_)
        clear hK K
        (try simp only [Act.put, List.getElem_toArray, List.getElem_cons_succ, List.getElem_cons_zero, List.setIfInBounds_toArray, List.set_cons_zero, List.set_cons_succ])
        refine wpAnyH_done (by kernel_rfl) ?_ _
        refine NoPanic.normal ?_
        go_wp2_with fail
        go_roundw
        case rel => exact ⟨k + 1, _, by omega, by go_num, by have := HP5.out; rw [HTH.out, HTS.out] at this; exact this⟩
        case measure => simp [intOf]; omega
      · have e : decide (k < np) = false := decide_eq_false hkn
        rw [e] at c0
        have HTH : Hid (ltB (min k np) = ltB (min (k + 1) np)) := Lib.hid (by rw [Nat.min_eq_right (by omega), Nat.min_eq_right (by omega)])
        clear e
        go_wp2_with fail
        go_roundw
        case rel => exact ⟨k + 1, W2, by omega, by go_num, by rw [← HTH.out]; exact HR.out⟩
        case measure => simp [intOf]; omega
    · have hkm : ¬ (k : Int) < Y.m := by have := HN.out; omega
      have HR1 : Hid (SV wA wr S a b (fun _ => false) (fun _ => 0) (fun _ b => zc b) (ltB np) (fun _ => 0) W2) := Lib.hid (by have := HR.out; rwa [Nat.min_eq_right (by have := HNn.out; omega)] at this)
      have HANb : Hid (a.n = 16) := Lib.hid HM.out.1
      clear HR HYR
      go_wp2_with fail
      go_loopw [11] (fun z wr' => ∃ (q : Nat) (W : Nat → Nat → Value), q ≤ 16 ∧ z = .int .i64 q ∧ SV wA wr' S a b (ltB (min q nn)) (fun _ => 0) W (ltB np) (fun _ => 0) W2 ∧ NodesT W (min q nn)) (fun z _ => 16 - (intOf z).toNat)
      case atStart => exact ⟨0, _, by omega, rfl, by rw [Nat.zero_min, ltB_0]; exact HR1.out, fun i hi => by rw [Nat.zero_min] at hi; omega⟩
      case round =>
        obtain ⟨q, W, hq, rfl, hs, hpz⟩ := hrel
        have HR := Lib.hid hs
        have HPZ := Lib.hid hpz
        have HYR := Lib.hid (HYA.out.below hs.bel)
        have f0 := HYR.out.f0
        have s0 := hs.st.s0
        clear hs hpz
        by_cases hql : q < 16
        · have q0 : (0 : Int) ≤ q := by omega
          have q1 : (q : Int) < Y.n := by have := HN.out; omega
          have n0 := (HYR.out.nslot q (by have := HN.out; omega)).1
          rw [HLN.out] at n0
          by_cases hqn : q < nn
          · have e : decide (q < nn) = true := decide_eq_true hqn
            rw [e] at n0
            have HTH : Hid (ltB (min q nn) = ltB q ∧ min q nn = q) := Lib.hid (by rw [Nat.min_eq_left (by omega)]; exact ⟨rfl, rfl⟩)
            have HTS : Hid (upd (ltB q) q true = ltB (min (q + 1) nn) ∧ min (q + 1) nn = q + 1) := Lib.hid (by rw [Nat.min_eq_left (by omega), ltB_s]; exact ⟨rfl, rfl⟩)
            have HR' : Hid (SV wA wr S a b (ltB q) (fun _ => 0) W (ltB np) (fun _ => 0) W2) := Lib.hid (by have := HR.out; rwa [HTH.out.1] at this)
            have HE' : Hid (ErrsAt (eV z1) (eV z2) wr) := Lib.hid (HE.out.below (BA.out.trans (HR.out.bel.mono BA.out.size)))
            have hqn' := Lib.hid hqn
            clear hqn e
            go_wp2_with (first
              | (go_at_call 25; (with_reducible refine (nmake_at q (eV z1) (eV z2) none 0 0 (fun _ _ => 0) (by decide) (Lib.hid (by intro i hi; omega)) q (Lib.hid rfl) (by have := HANb.out; omega) (Lib.hid (by simp [freeB, ltB])) (Lib.hid (by intro i hi; simp [freeB, ltB, hi])) 0 (Lib.hid rfl) _ HE'.out HR'.out.st.nd (srcK_none _ _ _ _)).mono ?_); rintro e w5 ⟨rfl, hM, hb⟩; have h5 := HR'.out.node hM hb; rw [HTS.out.1] at h5; have H5 := Lib.hid h5; clear hM hb h5))
            go_roundw
            case rel => exact ⟨q + 1, _, by omega, by go_num, H5.out, by rw [HTS.out.2]; have := HPZ.out; rw [HTH.out.2] at this; exact this.fresh⟩
            case measure => simp [intOf]; omega
          · have e : decide (q < nn) = false := decide_eq_false hqn
            rw [e] at n0
            have HTH : Hid (min q nn = min (q + 1) nn) := Lib.hid (by omega)
            clear e
            go_wp2_with fail
            go_roundw
            case rel => exact ⟨q + 1, W, by omega, by go_num, by rw [← HTH.out]; exact HR.out, by rw [← HTH.out]; exact HPZ.out⟩
            case measure => simp [intOf]; omega
        · have hqn : ¬ (q : Int) < Y.n := by have := HN.out; omega
          have HM16 : Hid (min q nn = nn) := Lib.hid (by have := HNn.out; omega)
          have HR2 : Hid (SV wA wr S a b (ltB nn) (fun _ => 0) W (ltB np) (fun _ => 0) W2) := Lib.hid (by have := HR.out; rwa [HM16.out] at this)
          have HPZ2 : Hid (NodesT W nn) := Lib.hid (by have := HPZ.out; rwa [HM16.out] at this)
          clear HR HYR HPZ s0
          go_wp2_with fail
          go_loopw [12] (fun z wr'' => ∃ (r : Nat) (W : Nat → Nat → Value), r ≤ 16 ∧ z = .int .i64 r ∧ SV wA wr'' S a b (ltB nn) (fun _ => 0) W (ltB np) (fun _ => 0) W2 ∧ NodesT W nn) (fun z _ => 16 - (intOf z).toNat)
          case atStart => exact ⟨0, _, by omega, rfl, HR2.out, HPZ2.out⟩
          case round =>
            obtain ⟨r, W', hr, rfl, hs, hp0⟩ := hrel
            have HR := Lib.hid hs
            have HP0 := Lib.hid hp0
            have HYR := Lib.hid (HYA.out.below hs.bel)
            have f0 := HYR.out.f0
            clear hs hp0 HR2 HPZ2
            by_cases hrl : r < 16
            · have r0 : (0 : Int) ≤ r := by omega
              have r1 : (r : Int) < Y.n := by have := HN.out; omega
              have HRl := Lib.hid hrl
              by_cases hrn : r < nn
              · have HNS : Hid (∀ X, Below wA.heap.size wA X → World.cell? X ⟨Y.gN, r * 4, none⟩ = some (.bool true)) := Lib.hid (fun X hX => by
                  have h := ((HYA.out.below hX).nslot r (by have := HN.out; omega)).1
                  rw [HLN.out, decide_eq_true hrn] at h
                  exact h)
                have HRn := Lib.hid hrn
                clear hrl hrn
                go_wp2_with fail
                go_loopw [13] (fun z wr3 => ∃ (s : Nat) (W : Nat → Nat → Value), s ≤ 16 ∧ z = .int .i64 s ∧ SV wA wr3 S a b (ltB nn) (fun _ => 0) W (ltB np) (fun _ => 0) W2 ∧ NodesT W nn) (fun z _ => 16 - (intOf z).toNat)
                case atStart => exact ⟨0, _, by omega, rfl, HR.out, HP0.out⟩
                case round =>
                  obtain ⟨s, W3, hs16, rfl, hs, hpp⟩ := hrel
                  have HRs := Lib.hid hs
                  have HPs := Lib.hid hpp
                  have HYs := Lib.hid (HYA.out.below hs.bel)
                  have g0 := HYs.out.f0
                  have n0 := HNS.out _ hs.bel
                  have s0 : (0 : Int) ≤ s := by omega
                  clear hs hpp f0
                  by_cases hsl : s < 16
                  · have s1 : (s : Int) < 16 := by omega
                    obtain ⟨y0, y1, y2, y3, y4, hk, hrt⟩ := HWN.out r HRn.out s hsl
                    have HKt := Lib.hid hk
                    have HRT := Lib.hid hrt
                    have HRD := Lib.hid (HRs.out.step (Below.refl wr.heap.size wr).drew)
                    have key : Hid (∀ X, Below wA.heap.size wA X → ∀ j, j < 5 → World.cell? X ⟨Y.bN, r * 80 + s * 5 + j, none⟩ = some (D.wN r (s * 5 + j))) := Lib.hid (fun X hX j hj => by
                      have h1 := (HYA.out.below hX).nkey r (s * 5 + j) (by have := HN.out; have := HRl.out; omega) (by omega)
                      rw [← Nat.add_assoc] at h1
                      exact h1)
                    have HSS : Hid (∀ X, Below wA.heap.size wA X → (World.cell? X ⟨Y.x, 6, none⟩ = some (.slice (some ⟨Y.bN, 0, none⟩) Y.n Y.n) ∧ World.cell? X ⟨Y.bN, r * 80 + s * 5, none⟩ = some (.int .i64 y0) ∧ World.cell? X ⟨Y.bN, r * 80 + s * 5 + 1, none⟩ = some (.int .i64 y1) ∧ World.cell? X ⟨Y.bN, r * 80 + s * 5 + 2, none⟩ = some (.int .i64 y2) ∧ World.cell? X ⟨Y.bN, r * 80 + s * 5 + 3, none⟩ = some (.int .i64 y3) ∧ World.cell? X ⟨Y.bN, r * 80 + s * 5 + 4, none⟩ = some (.int .u32 y4))) := Lib.hid (fun X hX => ⟨(HYA.out.below hX).f6, (key.out X hX 0 (by decide)).trans (congrArg some HKt.out.1), (key.out X hX 1 (by decide)).trans (congrArg some HKt.out.2.1), (key.out X hX 2 (by decide)).trans (congrArg some HKt.out.2.2.1), (key.out X hX 3 (by decide)).trans (congrArg some HKt.out.2.2.2.1), (key.out X hX 4 (by decide)).trans (congrArg some HKt.out.2.2.2.2)⟩)
                    clear hk hrt
                    go_wp2_with fail
                    refine wp_region_noPanic ?_
                    refine wp_region_held_drew (S := fun w' => World.cell? w' ⟨S, 0, none⟩ = some (.pointer (some ⟨a.P, 0, none⟩)) ∧ World.cell? w' ⟨Y.x, 6, none⟩ = some (.slice (some ⟨Y.bN, 0, none⟩) Y.n Y.n) ∧ World.cell? w' ⟨Y.bN, r * 80 + s * 5, none⟩ = some (.int .i64 y0) ∧ World.cell? w' ⟨Y.bN, r * 80 + s * 5 + 1, none⟩ = some (.int .i64 y1) ∧ World.cell? w' ⟨Y.bN, r * 80 + s * 5 + 2, none⟩ = some (.int .i64 y2) ∧ World.cell? w' ⟨Y.bN, r * 80 + s * 5 + 3, none⟩ = some (.int .i64 y3) ∧ World.cell? w' ⟨Y.bN, r * 80 + s * 5 + 4, none⟩ = some (.int .u32 y4)) (by kernel_rfl) ⟨HRD.out.st.s0, HSS.out _ HRD.out.bel⟩ (fun hHeld => ?_)
                    refine wpAnyH_take (i := 0) (v := ?_) (by rfl) (by kernel_rfl) (by kernel_rfl) (by kernel_rfl) (fun _ _ _ h => h) (Or.inl ⟨by kernel_rfl, ?_⟩) (by assumption) ?_; rotate_left 1; (focus (intro w hSw; (try dsimp only at hSw); simp only [List.getElem_toArray, List.getElem_cons_succ, List.getElem_cons_zero]; all_goals go_simp; all_goals (try with_reducible rfl))); (try simp only [Act.put, List.getElem_toArray, List.getElem_cons_succ, List.getElem_cons_zero, List.setIfInBounds_toArray, List.set_cons_zero, List.set_cons_succ])
                    refine wpAnyH_take (i := 1) (v := ?_) (by rfl) (by kernel_rfl) (by kernel_rfl) (by kernel_rfl) (fun _ _ _ h => h) (Or.inl ⟨by kernel_rfl, ?_⟩) (by assumption) ?_; rotate_left 1; (focus (intro w hSw; (try dsimp only at hSw); simp only [List.getElem_toArray, List.getElem_cons_succ, List.getElem_cons_zero]; all_goals go_simp; all_goals (try with_reducible rfl))); (try simp only [Act.put, List.getElem_toArray, List.getElem_cons_succ, List.getElem_cons_zero, List.setIfInBounds_toArray, List.set_cons_zero, List.set_cons_succ])
                    refine wpAnyH_take (i := 2) (v := ?_) (by rfl) (by kernel_rfl) (by kernel_rfl) (by kernel_rfl) (fun _ _ _ h => h) (Or.inl ⟨by kernel_rfl, ?_⟩) (by assumption) ?_; rotate_left 1; (focus (intro w hSw; (try dsimp only at hSw); simp only [List.getElem_toArray, List.getElem_cons_succ, List.getElem_cons_zero]; all_goals go_simp; all_goals (try with_reducible rfl))); (try simp only [Act.put, List.getElem_toArray, List.getElem_cons_succ, List.getElem_cons_zero, List.setIfInBounds_toArray, List.set_cons_zero, List.set_cons_succ])
                    refine wpAnyH_take (i := 3) (v := ?_) (by rfl) (by kernel_rfl) (by kernel_rfl) (by kernel_rfl) (fun _ _ _ h => h) (Or.inl ⟨by kernel_rfl, ?_⟩) (by assumption) ?_; rotate_left 1; (focus (intro w hSw; (try dsimp only at hSw); simp only [List.getElem_toArray, List.getElem_cons_succ, List.getElem_cons_zero]; all_goals go_simp; all_goals (try with_reducible rfl))); (try simp only [Act.put, List.getElem_toArray, List.getElem_cons_succ, List.getElem_cons_zero, List.setIfInBounds_toArray, List.set_cons_zero, List.set_cons_succ])
                    refine wpAnyH_take (i := 4) (v := ?_) (by rfl) (by kernel_rfl) (by kernel_rfl) (by kernel_rfl) (fun _ _ _ h => h) (Or.inl ⟨by kernel_rfl, ?_⟩) (by assumption) ?_; rotate_left 1; (focus (intro w hSw; (try dsimp only at hSw); simp only [List.getElem_toArray, List.getElem_cons_succ, List.getElem_cons_zero]; all_goals go_simp; all_goals (try with_reducible rfl))); (try simp only [Act.put, List.getElem_toArray, List.getElem_cons_succ, List.getElem_cons_zero, List.setIfInBounds_toArray, List.set_cons_zero, List.set_cons_succ])
                    refine wpAnyH_take (i := 5) (v := ?_) (by rfl) (by kernel_rfl) (by kernel_rfl) (by kernel_rfl) (fun _ _ _ h => h) (Or.inl ⟨by kernel_rfl, ?_⟩) (by assumption) ?_; rotate_left 1; (focus (intro w hSw; (try dsimp only at hSw); simp only [List.getElem_toArray, List.getElem_cons_succ, List.getElem_cons_zero]; all_goals go_simp; all_goals (try with_reducible rfl))); (try simp only [Act.put, List.getElem_toArray, List.getElem_cons_succ, List.getElem_cons_zero, List.setIfInBounds_toArray, List.set_cons_zero, List.set_cons_succ])
                    refine wpAnyH_take (i := 6) (v := ?_) (by rfl) (by kernel_rfl) (by kernel_rfl) (by kernel_rfl) (fun _ _ _ h => h) (Or.inl ⟨by kernel_rfl, ?_⟩) (by assumption) ?_; rotate_left 1; (focus (intro w hSw; (try dsimp only at hSw); simp only [List.getElem_toArray, List.getElem_cons_succ, List.getElem_cons_zero]; all_goals go_simp; all_goals (try with_reducible rfl))); (try simp only [Act.put, List.getElem_toArray, List.getElem_cons_succ, List.getElem_cons_zero, List.setIfInBounds_toArray, List.set_cons_zero, List.set_cons_succ])
                    refine wpAnyH_take (i := 7) (v := ?_) (by rfl) (by kernel_rfl) (by kernel_rfl) (by kernel_rfl) (fun _ _ _ h => h) (Or.inl ⟨by kernel_rfl, ?_⟩) (by assumption) ?_; rotate_left 1; (focus (intro w hSw; (try dsimp only at hSw); simp only [List.getElem_toArray, List.getElem_cons_succ, List.getElem_cons_zero]; all_goals go_simp; all_goals (try with_reducible rfl))); (try simp only [Act.put, List.getElem_toArray, List.getElem_cons_succ, List.getElem_cons_zero, List.setIfInBounds_toArray, List.set_cons_zero, List.set_cons_succ])
                    refine wpAnyH_take (i := 8) (v := ?_) (by rfl) (by kernel_rfl) (by kernel_rfl) (by kernel_rfl) (fun _ _ _ h => h) (Or.inl ⟨by kernel_rfl, ?_⟩) (by assumption) ?_; rotate_left 1; (focus (intro w hSw; (try dsimp only at hSw); simp only [List.getElem_toArray, List.getElem_cons_succ, List.getElem_cons_zero]; all_goals go_simp; all_goals (try with_reducible rfl))); (try simp only [Act.put, List.getElem_toArray, List.getElem_cons_succ, List.getElem_cons_zero, List.setIfInBounds_toArray, List.set_cons_zero, List.set_cons_succ])
                    refine wpAnyH_take (i := 9) (v := ?_) (by rfl) (by kernel_rfl) (by kernel_rfl) (by kernel_rfl) (fun _ _ _ h => h) (Or.inl ⟨by kernel_rfl, ?_⟩) (by assumption) ?_; rotate_left 1; (focus (intro w hSw; (try dsimp only at hSw); simp only [List.getElem_toArray, List.getElem_cons_succ, List.getElem_cons_zero]; all_goals go_simp; all_goals (try with_reducible rfl))); (try simp only [Act.put, List.getElem_toArray, List.getElem_cons_succ, List.getElem_cons_zero, List.setIfInBounds_toArray, List.set_cons_zero, List.set_cons_succ])
                    refine wpAnyH_take (i := 10) (v := ?_) (by rfl) (by kernel_rfl) (by kernel_rfl) (by kernel_rfl) (fun _ _ _ h => h) (Or.inl ⟨by kernel_rfl, ?_⟩) (by assumption) ?_; rotate_left 1; (focus (intro w hSw; (try dsimp only at hSw); simp only [List.getElem_toArray, List.getElem_cons_succ, List.getElem_cons_zero]; all_goals go_simp; all_goals (try with_reducible rfl))); (try simp only [Act.put, List.getElem_toArray, List.getElem_cons_succ, List.getElem_cons_zero, List.setIfInBounds_toArray, List.set_cons_zero, List.set_cons_succ])
                    refine wpAnyH_take (i := 11) (v := ?_) (by rfl) (by kernel_rfl) (by kernel_rfl) (by kernel_rfl) (fun _ _ _ h => h) (Or.inl ⟨by kernel_rfl, ?_⟩) (by assumption) ?_; rotate_left 1; (focus (intro w hSw; (try dsimp only at hSw); simp only [List.getElem_toArray, List.getElem_cons_succ, List.getElem_cons_zero]; all_goals go_simp; all_goals (try with_reducible rfl))); (try simp only [Act.put, List.getElem_toArray, List.getElem_cons_succ, List.getElem_cons_zero, List.setIfInBounds_toArray, List.set_cons_zero, List.set_cons_succ])
                    refine wpAnyH_take (i := 12) (v := ?_) (by rfl) (by kernel_rfl) (by kernel_rfl) (by kernel_rfl) (fun _ _ _ h => h) (Or.inl ⟨by kernel_rfl, ?_⟩) (by assumption) ?_; rotate_left 1; (focus (intro w hSw; (try dsimp only at hSw); simp only [List.getElem_toArray, List.getElem_cons_succ, List.getElem_cons_zero]; all_goals go_simp; all_goals (try with_reducible rfl))); (try simp only [Act.put, List.getElem_toArray, List.getElem_cons_succ, List.getElem_cons_zero, List.setIfInBounds_toArray, List.set_cons_zero, List.set_cons_succ])
                    refine wpAnyH_take (i := 13) (v := ?_) (by rfl) (by kernel_rfl) (by kernel_rfl) (by kernel_rfl) (fun _ _ _ h => h) (Or.inl ⟨by kernel_rfl, ?_⟩) (by assumption) ?_; rotate_left 1; (focus (intro w hSw; (try dsimp only at hSw); simp only [List.getElem_toArray, List.getElem_cons_succ, List.getElem_cons_zero]; all_goals go_simp; all_goals (try with_reducible rfl))); (try simp only [Act.put, List.getElem_toArray, List.getElem_cons_succ, List.getElem_cons_zero, List.setIfInBounds_toArray, List.set_cons_zero, List.set_cons_succ])
                    refine wpAnyH_take (i := 14) (v := ?_) (by rfl) (by kernel_rfl) (by kernel_rfl) (by kernel_rfl) (fun _ _ _ h => h) (Or.inl ⟨by kernel_rfl, ?_⟩) (by assumption) ?_; rotate_left 1; (focus (intro w hSw; (try dsimp only at hSw); simp only [List.getElem_toArray, List.getElem_cons_succ, List.getElem_cons_zero]; all_goals go_simp; all_goals (try with_reducible rfl))); (try simp only [Act.put, List.getElem_toArray, List.getElem_cons_succ, List.getElem_cons_zero, List.setIfInBounds_toArray, List.set_cons_zero, List.set_cons_succ])
                    refine wpAnyH_ready (rs := [15]) (by kernel_rfl) (by simp) ?_; refine AllReadyH.cons (by rfl) (fun K hK => ?_) AllReadyH.nil; rw [if_pos (by kernel_rfl)]; simp only [List.getElem_toArray, List.getElem_cons_succ, List.getElem_cons_zero]
                    have HE' : Hid (ErrsAt (eV z1) (eV z2) wr.drew) := Lib.hid (HE.out.below (BA.out.trans (HRD.out.bel.mono BA.out.size)))
                    have HTR : Hid (ltB nn r = true) := Lib.hid (by have := HRn.out; simp [ltB]; omega)
                    go_wp2_with (first | (go_at_call 19; (with_reducible refine (nset_any z1 z2 r s (by have := HANb.out; have := HRl.out; omega) hsl HTR y0 y1 y2 y3 y4 _ HE'.out HRD.out.st.nd (Lib.hid (HPs.out.all16 HRn.out).one)).mono ?_); rintro e w6 ⟨v6, W6, rfl, hM, hb, hw⟩; have H6 := Lib.hid (HRD.out.node hM hb); have HN6 : Hid (NodesT W6 nn) := Lib.hid (by rcases hw with rfl | rfl; exact HPs.out; exact HPs.out.set r s HRT.out); clear hM hb hw))
                    refine hK.out _ _ ⟨H6.out.st.s0, HSS.out _ H6.out.bel⟩ (fun hHeld => ?_)
                    clear hK K
                    (try simp only [Act.put, List.getElem_toArray, List.getElem_cons_succ, List.getElem_cons_zero, List.setIfInBounds_toArray, List.set_cons_zero, List.set_cons_succ])
                    refine wpAnyH_done (by kernel_rfl) ?_ _
                    refine NoPanic.normal ?_
                    go_wp2_with fail
                    go_roundw
                    case rel => exact ⟨s + 1, _, by omega, by go_num, H6.out, HN6.out⟩
                    case measure => simp [intOf]; omega
                  · have s1 : ¬ (s : Int) < 16 := by omega
                    go_wp2_with fail
                    go_roundw
                    case rel => exact ⟨r + 1, W3, by have := HRl.out; omega, by go_num, HRs.out, HPs.out⟩
                    case measure => simp [intOf]; have := HRl.out; omega
              · have n0 := (HYR.out.nslot r (by have := HN.out; omega)).1
                have e : decide (r < nn) = false := decide_eq_false hrn
                rw [HLN.out, e] at n0
                clear hrn e
                go_wp2_with fail
                go_loopw [13] (fun z wr3 => z = .int .i64 0 ∧ wr3 = wr) (fun _ _ => 0)
                case atStart => exact ⟨rfl, rfl⟩
                case round =>
                  obtain ⟨rfl, rfl⟩ := hrel
                  go_wp2_with fail
                  go_roundw
                  case rel => exact ⟨r + 1, W', by have := HRl.out; omega, by go_num, HR.out, HP0.out⟩
                  case measure => simp [intOf]; have := HRl.out; omega
            · have hrn : ¬ (r : Int) < Y.n := by have := HN.out; omega
              have hk := HKA.out.below HR.out.bel
              have z0' := hk.c0
              have z1' := hk.c1
              have z2' := hk.c2
              have z3' := hk.c3
              have z4' := hk.c4
              have hk' := HK0.out.below HR.out.bel
              have HZ := Lib.hid hk'
              have y0 := hk'.c0
              have y1 := hk'.c1
              have y2 := hk'.c2
              have y3 := hk'.c3
              have y4 := hk'.c4
              have g0 := hk'.fr 0
              have g1 := hk'.fr 1
              have g2 := hk'.fr 2
              have g3 := hk'.fr 3
              have g4 := hk'.fr 4
              clear hk hk'
              go_wp2_with fail
              go_region
              go_wp2_with fail
              have t := (HZ.out.set k0 k1 k2 k3 k4).below (Below.refl _ _).drew
              have t0 := t.c0
              have t1 := t.c1
              have t2 := t.c2
              have t3 := t.c3
              have t4 := t.c4
              refine bodyPost_ret (v := .tuple #[.pointer (some ⟨S, 0, none⟩), .agg #[.int .i64 k0, .int .i64 k1, .int .i64 k2, .int .i64 k3, .int .u32 k4]]) (by simp [results, Tryd.results14, go_sem, t0, t1, t2, t3, t4]) rfl ⟨S, a, b, W', W2, k0, k1, k2, k3, k4, nn, np, rfl, ?_, Lib.hid HP0.out, HKT, Lib.hid ⟨HM.out.1, HM.out.2.1, HNn.out.1, HNn.out.2⟩⟩
              have hlt : w.heap.size < a.b := Nat.lt_of_lt_of_le HK0.out.lt HR.out.wb
              exact ⟨(below_set5 (BA.out.trans (HR.out.bel.mono BA.out.size)) (Nat.le_refl _) k0 k1 k2 k3 k4).trans ((Below.refl _ _).drew.mono (by have := BA.out.size; have := HR.out.bel.size; simp; omega)), Nat.le_of_lt hlt, (HR.out.st.low5 w.heap.size hlt k0 k1 k2 k3 k4).below (Below.refl _ _).drew⟩
end Go.Proofs.YtedidopkemjgeaaDoor
namespace Go.Proofs.YtedidopkemjgeaaDoor
open Go.ChangeShapes Go.WideShapes Go.ChangeAt Go.RowKit
set_option linter.unusedVariables false
set_option linter.unusedSimpArgs false
theorem way_ex1 {a b : Shp} {nn np : Nat} {W : Nat → Nat → Value} (hW : NodesT W nn) (k0 k1 k2 k3 k4 below : Int) (ad : Nat) (ro : Bool) (h4 : 0 ≤ k4) (next : ∀ h : Nat, 1 ≤ h → (h : Int) < below → ∀ (y0 y1 y2 y3 y4 : Int) (ad' : Nat) (ro' : Bool), 0 ≤ y4 → ∃ ids pg at_ r f, Way a b (ltB nn) (fun _ => 0) W (ltB np) (fun _ => 0) y0 y1 y2 y3 y4 h ad' ro' ids pg at_ r f) : ∃ ids pg at_ r f, Way a b (ltB nn) (fun _ => 0) W (ltB np) (fun _ => 0) k0 k1 k2 k3 k4 below ad ro ids pg at_ r f := by
  by_cases c1 : (szB k0 k4 && liveB a b (ltB nn) (fun _ => 0) (ltB np) (fun _ => 0) k0 k1 k2) = false
  · exact ⟨[], 0, 0, false, 2, .fault _ _ _ 2 h4 ⟨rfl, rfl⟩ rfl (by unfold entP; rw [if_pos c1]) rfl⟩
  by_cases c2 : k0 = 2 ∧ below ≤ k4
  · exact ⟨[], 0, 0, false, 5, .fault _ _ _ 5 h4 ⟨rfl, rfl⟩ rfl (by unfold entP; rw [if_neg c1, if_pos c2]) rfl⟩
  by_cases c3 : szP k0 k4 ≤ (ad : Int)
  · exact ⟨[], 0, 0, false, 3, .fault _ _ _ 3 h4 ⟨rfl, rfl⟩ rfl (by unfold entP; rw [if_neg c1, if_neg c2, if_pos c3]) rfl⟩
  have hsl : szB k0 k4 = true ∧ liveB a b (ltB nn) (fun _ => 0) (ltB np) (fun _ => 0) k0 k1 k2 = true := by
    cases h1 : szB k0 k4
    · rw [h1] at c1; exact absurd rfl c1
    · cases h2 : liveB a b (ltB nn) (fun _ => 0) (ltB np) (fun _ => 0) k0 k1 k2
      · rw [h1, h2] at c1; exact absurd rfl c1
      · exact ⟨rfl, rfl⟩
  obtain ⟨hs, hl⟩ := hsl
  have hk : k0 = 3 ∨ (k0 = 2 ∧ 1 ≤ k4 ∧ k4 ≤ 4) := by simpa [szB] using hs
  rcases hk with rfl | ⟨rfl, k41, k44⟩
  · have h32 : (ad : Int) < 32 := by simp [szP] at c3; omega
    exact ⟨[], k1, ad, _, 0, .page h4 (by omega) hl h32⟩
  · obtain ⟨h, rfl⟩ : ∃ h : Nat, k4 = h := ⟨k4.toNat, by omega⟩
    have hsz := way_sz h (by omega) (by omega) (2 * 16 ^ h) rfl
    rw [hsz.1] at c3
    obtain ⟨q, s, hq, hs', e⟩ := way_split (2 * 16 ^ h) (Nat.mul_pos (by decide) (Nat.pow_pos (by decide))) ad (by omega)
    have hb : (h : Int) < below := by omega
    simp [liveB, thereB] at hl
    obtain ⟨⟨⟨l1, l2⟩, l3⟩, l4⟩ := hl
    obtain ⟨i, rfl⟩ : ∃ i : Nat, k1 = i := ⟨k1.toNat, by omega⟩
    have l3' : i < nn := by simpa [ltB] using l3
    obtain ⟨y0, y1, y2, y3, y4, hy, hkt⟩ := hW i l3' q hq
    obtain ⟨ids, pg, at_, r, f, hw⟩ := next h (by omega) hb y0 y1 y2 y3 y4 s (ro || roB k3) hkt.d.1
    exact ⟨_, pg, at_, r, f, way_at h i q s y0 y1 y2 y3 y4 rfl (by omega) (by omega) (by rw [e]) hb rfl (by omega) (by simp [ltB, l3']) l4 hq hs' hy hw⟩
theorem way_ex {a b : Shp} {nn np : Nat} {W : Nat → Nat → Value} (hW : NodesT W nn) : ∀ (m : Nat) (k0 k1 k2 k3 k4 below : Int) (ad : Nat) (ro : Bool), 0 ≤ k4 → below ≤ m → ∃ ids pg at_ r f, Way a b (ltB nn) (fun _ => 0) W (ltB np) (fun _ => 0) k0 k1 k2 k3 k4 below ad ro ids pg at_ r f := by
  intro m
  induction m with
  | zero =>
    intro k0 k1 k2 k3 k4 below ad ro h4 hb
    exact way_ex1 hW k0 k1 k2 k3 k4 below ad ro h4 (fun h h1 hd => by omega)
  | succ m ih =>
    intro k0 k1 k2 k3 k4 below ad ro h4 hb
    exact way_ex1 hW k0 k1 k2 k3 k4 below ad ro h4 (fun h h1 hd y0 y1 y2 y3 y4 ad' ro' hy => ih y0 y1 y2 y3 y4 h ad' ro' hy (by omega))
end Go.Proofs.YtedidopkemjgeaaDoor
namespace Go.Proofs.YtedidopkemjgeaaDoor
open Go.ChangeShapes Go.WideShapes Go.ChangeAt Go.RowKit
set_option linter.unusedVariables false
set_option linter.unusedSimpArgs false
theorem rows_act {w : World} {a : Option Addr} {n cap : Nat} {zs : List (List Int)} (h : IsRows [.i64, .i64, .i64, .i64, .u32] w a n cap zs) (i : Nat) (hi : i < n) :
    ∃ ad x0 x1 x2 x3 x4, a = some ad ∧ (ad.add (i * 5)).block < w.heap.size ∧ InK w (ad.add (i * 5)) x0 x1 x2 x3 x4 ∧ 0 ≤ x4 ∧ x4 ≤ 4294967295 := by
  rcases h with ⟨_, h0, _⟩ | ⟨x, rfl, hl, hm, hz, hc⟩
  · omega
  · have hi' : i < zs.length := by omega
    have c0 := (hc i hi' 0 .i64 rfl).1
    have c1 := (hc i hi' 1 .i64 rfl).1
    have c2 := (hc i hi' 2 .i64 rfl).1
    have c3 := (hc i hi' 3 .i64 rfl).1
    have c4 := hc i hi' 4 .u32 rfl
    have c4' := c4.1
    have e5 : [IntKind.i64, IntKind.i64, IntKind.i64, IntKind.i64, IntKind.u32].length = 5 := rfl
    rw [e5] at c0 c1 c2 c3 c4'
    rw [Nat.add_zero] at c0
    rw [add_more x (i * 5) 0] at c1
    rw [add_more x (i * 5) 1] at c2
    rw [add_more x (i * 5) 2] at c3
    rw [add_more x (i * 5) 3] at c4'
    exact ⟨x, _, _, _, _, _, rfl, World.block_lt_of_cell? w _ c0, ⟨c0, c1, c2, c3, c4'⟩, fit32 c4.2⟩
theorem InK.below9 {w w' : World} {e : Addr} {y0 y1 y2 y3 y4 : Int} (h : InK w e y0 y1 y2 y3 y4) (hb : Below w.heap.size w w') (hl : e.block < w.heap.size) : InK w' e y0 y1 y2 y3 y4 :=
  ⟨(hb.cell (p := e) hl).trans h.1, (hb.cell (p := ⟨e.block, e.off + 1, none⟩) hl).trans h.2.1, (hb.cell (p := ⟨e.block, e.off + 2, none⟩) hl).trans h.2.2.1, (hb.cell (p := ⟨e.block, e.off + 3, none⟩) hl).trans h.2.2.2.1, (hb.cell (p := ⟨e.block, e.off + 4, none⟩) hl).trans h.2.2.2.2⟩
theorem li_row {w : World} {a : Option Addr} {len cap : Nat} {zs : List Int} (h : IsRow .i64 w a len cap zs) : ∃ f : Nat → Int, (∀ j, j < len → ∃ ad : Addr, a = some ad ∧ ad.block < w.heap.size ∧ w.cell? (ad.add j) = some (.int .i64 (f j))) ∧ len ≤ cap ∧ len ≤ 9223372036854775807 := by
  rcases h with ⟨rfl, rfl, rfl, -⟩ | ⟨x, rfl, h1, h2, h3, h4, h5⟩
  · exact ⟨fun _ => 0, fun i hi => by omega, by omega, by omega⟩
  · refine ⟨fun j => zs.getD j 0, fun i hi => ⟨x, rfl, ?_, h4 i (by omega)⟩, h1, by unfold maxLen at h2; omega⟩
    have := World.block_lt_of_cell? w _ (h4 i (by omega))
    rwa [add_block'] at this
set_option maxRecDepth 100000 in
theorem nget_no {base P p B G n c : Nat} {th : Nat → Bool} {vr_ : Nat → Int} {W : Nat → Nat → Value} (k s : Nat) (hk : k < n) (ht : Hid (th k = false)) (w : World) (h : NdAt w base P p B G n c th vr_ W) :
    Calls Tryd.prog 18 #[.pointer (some ⟨P, 0, none⟩), .int .i64 k, .int .i64 s] w fun e w' => e = .returned (.tuple #[.agg #[.int .i64 0, .int .i64 0, .int .i64 0, .int .i64 0, .int .u32 0], .bool false]) ∧ Below w.heap.size w w' := by
  have H := Lib.hid h
  have hlP := h.pl
  have up : ∀ (X : Obj) (b o : Nat) (v : Value), b < w.heap.size → w.cell? ⟨b, o, none⟩ = some v → (w.alloc X).cell? ⟨b, o, none⟩ = some v := fun X b o v hb hv => (World.cell?_alloc_lt w X ⟨b, o, none⟩ hb).trans hv
  have f0 : ∀ X, (w.alloc X).cell? ⟨P, 0, none⟩ = _ := fun X => up X P 0 _ hlP h.f0
  clear h up hlP
  go_enter Tryd.func18, Tryd.ntmps18
  go_wp2_with (first
    | (go_at_call 48; (with_reducible refine (athere_in k hk false ht _ (H.out.below ((Below.refl _ _).alloc (Nat.le_refl _) _)).ar).mono ?_); rintro e w1 ⟨rfl, rfl⟩))
  refine bodyPost_ret (v := .tuple #[.agg #[.int .i64 0, .int .i64 0, .int .i64 0, .int .i64 0, .int .u32 0], .bool false]) (by simp [results, Tryd.results18, go_sem]) rfl ⟨rfl, ?_⟩
  exact (Below.refl _ _).alloc (Nat.le_refl _) _
theorem nget_any {base P p B G n c nn : Nat} {vr_ : Nat → Int} {W : Nat → Nat → Value} (hW : NodesT W nn) (k s : Nat) (hk : k < n) (hs : s < 16) (w : World) (h : NdAt w base P p B G n c (ltB nn) vr_ W) :
    Calls Tryd.prog 18 #[.pointer (some ⟨P, 0, none⟩), .int .i64 k, .int .i64 s] w fun e w' => ∃ y0 y1 y2 y3 y4 t, e = .returned (.tuple #[.agg #[.int .i64 y0, .int .i64 y1, .int .i64 y2, .int .i64 y3, .int .u32 y4], .bool t]) ∧ Below w.heap.size w w' ∧ (t = true → KeyT y0 y1 y2 y3 y4 ∧ k < nn) := by
  by_cases hkn : k < nn
  · obtain ⟨y0, y1, y2, y3, y4, hy, hkt⟩ := hW k hkn s hs
    refine (nget_is k s hk hs (Lib.hid (by simp [ltB, hkn])) y0 y1 y2 y3 y4 hy.1 hy.2.1 hy.2.2.1 hy.2.2.2.1 hy.2.2.2.2 w h).mono ?_
    rintro e w' ⟨rfl, hb⟩
    exact ⟨y0, y1, y2, y3, y4, true, rfl, hb, fun _ => ⟨hkt, hkn⟩⟩
  · refine (nget_no k s hk (Lib.hid (by simp [ltB]; omega)) w h).mono ?_
    rintro e w' ⟨rfl, hb⟩
    exact ⟨0, 0, 0, 0, 0, false, rfl, hb, fun e => by cases e⟩
/-- A node was turned, and the cache told. -/
theorem cv_told {w0 w w1 w2 w3 : World} {S : Nat} {a b : Shp} {N cb : Nat} {size : Int} {th : Nat → Bool} {vr_ : Nat → Int} {W W' : Nat → Nat → Value} {th2 : Nat → Bool} {vr2 : Nat → Int} {W2 : Nat → Nat → Int} {hits : Int} {v v' : Value} {E : List EW} (i : Nat) (h : CV w0 w S a b N cb size th vr_ W th2 vr2 W2 hits v E) (hN : NdAt w1 a.b a.P a.p a.B a.G a.n a.c th vr_ W') (hb : PBelow w w1 a.B a.G) (h12 : Below w1.heap.size w1 w2) (hB : Below N w2 w3) (hc : CacheAt w3 N cb size hits v' (offE [(i : Int)] E)) (hk : KeepB w2 w3 cb v) (hW : ∀ q, q ≠ i → ∀ j y0 y1 y2 y3 y4, KAt (W q) j y0 y1 y2 y3 y4 → KAt (W' q) j y0 y1 y2 y3 y4) : CV w0 w3 S a b N cb size th vr_ W' th2 vr2 W2 hits v' (offE [(i : Int)] E) := by
  have hl := h.lo.n
  have sv1 := (h.sv.node hN hb).step h12
  exact ⟨⟨sv1.bel.trans (hB.mono h.n0), sv1.wb, sv1.st.under h.lo hk.1 (fun k hkN => hB.block k hkN)⟩, h.lo, h.n0, Nat.le_trans h.nN (Nat.le_trans hb.2.2.2.1 (Nat.le_trans h12.size hk.1)), hc, ways_off_set i h.ok hW⟩
theorem cv_cache {w0 w w1 : World} {S : Nat} {a b : Shp} {N cb : Nat} {size : Int} {th : Nat → Bool} {vr_ : Nat → Int} {W : Nat → Nat → Value} {th2 : Nat → Bool} {vr2 : Nat → Int} {W2 : Nat → Nat → Int} {hits : Int} {v : Value} {E : List EW} (h : CV w0 w S a b N cb size th vr_ W th2 vr2 W2 hits v E) (hb : PBelow w w1 a.B a.G) : CacheAt w1 N cb size hits v E ∧ N ≤ w1.heap.size := by
  have hl := h.lo.n
  exact ⟨h.ca.same hb.2.2.2.1 (fun k hk hks => hb.2.2.2.2 k hks (by omega) (by omega)), Nat.le_trans h.nN hb.2.2.2.1⟩
set_option maxRecDepth 100000 in
set_option maxHeartbeats 8000000 in
theorem cfinds_walk (a0 ht : Int) (s x h : Nat) (hs : Hid (x + 1 = s)) (hx64 : x < 64) (hht : Hid (ht = h)) (h4 : h ≤ 4) (C0 : Hid (∀ w, Calls Tryd.prog 13 #[.int .i64 a0, .int .i64 64] w fun e w' => e = .returned (.int .i64 (x : Int)) ∧ w = w')) (la : Option Addr) (L c : Nat) (f : Nat → Int) (hLc : Hid (L ≤ 20 ∧ L ≤ c)) (a3 : Option Addr) (n3 c3 : Nat) (z3 : List (List Int)) (hn3 : n3 ≤ 50) (z1 z2 : Addr) (w : World) (hE : ErrsAt (eV z1) (eV z2) w) (hl : Hid (∀ j, j < L → ∃ ad : Addr, la = some ad ∧ ad.block < w.heap.size ∧ w.cell? (ad.add j) = some (.int .i64 (f j)))) (hR3 : Hid (IsRows [.i64, .i64, .i64, .i64, .u32] w a3 n3 c3 z3)) :
    Calls Tryd.prog 3 #[.int .i64 a0, .int .i64 ht, .slice la L c, .slice a3 n3 c3] w fun e w' => e = .returned (.bool true) ∧ Below w.heap.size w w' := by
  have HE := Lib.hid hE
  clear hE
  have x0 : (0 : Int) ≤ x := by omega
  have x1 : (x : Int) < 64 := by omega
  have es : (x : Int) + 1 = s := by have := hs.out; omega
  have HS : Hid (1 ≤ s ∧ s ≤ 64) := Lib.hid (by have := hs.out; omega)
  have t0 : (0 : Int) ≤ ht := by have := hht.out; omega
  have t4 : ht ≤ 4 := by have := hht.out; omega
  have d1 : ¬ (20 : Int) < (L : Int) := by have := hLc.out; omega
  have d2 : ¬ ht < 0 := by omega
  have d3 : ¬ (4 : Int) < ht := by omega
  have d4 : ¬ (50 : Int) < (n3 : Int) := by omega
  have HN3 := Lib.hid hn3
  clear hx64 hn3
  go_enter Tryd.func3, Tryd.ntmps3
  go_upto_region 7 with (first
    | (go_at_call 12; (with_reducible refine (cfirst_is (eV z1) (eV z2) _ HE.out).mono ?_); rintro e w1 ⟨rfl, hb1⟩; have HB1 := Lib.hid hb1; clear hb1)
    | (go_at_call 13; (with_reducible refine (C0.out _).mono ?_); rintro e w9 ⟨rfl, rfl⟩))
  have ES := Lib.hid es
  clear es x0 x1 d1 d2 d3 d4
  have s1 : (1 : Int) ≤ s := by have := HS.out; omega
  have s8 : (s : Int) ≤ 64 := by have := HS.out; omega
  have HL1 : Hid (∀ j, j < L → ∃ ad : Addr, la = some ad ∧ ad.block < w1.heap.size ∧ w1.cell? (ad.add j) = some (.int .i64 (f j))) := Lib.hid (fun j hj => by
    obtain ⟨ad, g1, g2, g3⟩ := hl.out j hj
    exact ⟨ad, g1, Nat.lt_of_lt_of_le g2 HB1.out.size, (HB1.out.cell (p := ad.add j) (by rw [add_block']; exact g2)).trans g3⟩)
  have HMD := Lib.hid (madeN_is ht h hht h4 la L c f hLc z1 z2 w1 (HE.out.below HB1.out) HL1)
  go_upto_region 9 with (first
    | (go_at_call 14; (with_reducible refine HMD.out.mono ?_); rintro e w2 ⟨S, a, b, W, W2, k0, k1, k2, k3, k4, nn, np, rfl, hs2, hnt, hkt, hn⟩; have H1 := Lib.hid hs2; have HNT := hnt; have HKT := hkt; have HN := Lib.hid hn.out; clear HMD hs2 hn hnt hkt)
    | (go_at_call 15; (with_reducible refine (cnew_ok (s : Int) s1 s8 _).mono ?_); rintro e w4 ⟨cb, rfl, hc, hb⟩; have HC3 := Lib.hid hc; have HB3 := Lib.hid hb; clear hc hb))
  obtain ⟨w3, hw3⟩ : ∃ w3, w3 = w2.alloc (.cells #[.int .i64 k0, .int .i64 k1, .int .i64 k2, .int .i64 k3, .int .u32 k4] 29 (0, 0)) := ⟨_, rfl⟩
  rw [← hw3] at HC3 HB3
  have H3 : Hid (SV w w3 S a b (ltB nn) (fun _ => 0) W (ltB np) (fun _ => 0) W2) := Lib.hid (by rw [hw3]; exact (H1.out.over HB1.out).step ((Below.refl _ _).alloc (Nat.le_refl _) _))
  have HK3 : Hid (KeyC w3 w2.heap.size k0 k1 k2 k3 k4) := Lib.hid (by rw [hw3]; exact KeyC.new _ _ _ _ _ _ _)
  obtain ⟨N, hN⟩ : ∃ N, w3.heap.size = N := ⟨_, rfl⟩
  have H4 : Hid (CV w w4 S a b N cb (s : Int) (ltB nn) (fun _ => 0) W (ltB np) (fun _ => 0) W2 0 (.slice none 0 0) []) := Lib.hid (by rw [← hN]; exact CV.new H3.out HC3.out HB3.out)
  have HK4 := Lib.hid (HK3.out.below HB3.out)
  obtain ⟨kb, hkb⟩ : ∃ kb, Hid (w2.heap.size = kb) := ⟨_, Lib.hid rfl⟩
  rw [hkb.out] at HK3 HK4 ⊢
  have HO4 : Hid (OutC cb (.slice none 0 0) kb) := Lib.hid ⟨by have := HK3.out.lt; have := H4.out.ca.nb; omega, by simp [Value.ownBlock]⟩
  have HKa : Hid (a.B < kb ∧ a.G < kb) := Lib.hid (by rw [← hkb.out]; exact H1.out.st.lo.n.2.2)
  clear hw3 hN hkb H1 H3 HC3 HB3 HK3 HL1 HB1
  go_wp2_with fail
  go_loopw [14] (fun z wr => ∃ (i : Nat) (W : Nat → Nat → Value) (v : Value) (E : List EW) (hits : Int), i ≤ n3 ∧ z = .int .i64 i ∧ (CV w wr S a b N cb (s : Int) (ltB nn) (fun _ => 0) W (ltB np) (fun _ => 0) W2 hits v E) ∧ NodesT W nn ∧ (E.length : Int) ≤ s ∧ 0 ≤ hits ∧ hits ≤ i ∧ KeyC wr kb k0 k1 k2 k3 k4 ∧ OutC cb v kb) (fun z _ => 100 - (intOf z).toNat)
  case atStart => exact ⟨0, W, (.slice none 0 0), [], 0, by omega, rfl, H4.out, HNT.out, by have := HS.out; simp, by omega, by omega, HK4.out, HO4.out⟩
  case round =>
    obtain ⟨i, W, v, E, hits, hi, rfl, hc, hnt, hle, hh0, hh1, hk, ho⟩ := hrel
    have HC := Lib.hid hc
    have HNT := Lib.hid hnt
    have HG := Lib.hid (And.intro hle (And.intro hh0 hh1))
    have HK := Lib.hid hk
    have HO := Lib.hid ho
    have i0 : (0 : Int) ≤ i := by omega
    have i50 : (i : Int) ≤ 50 := by have := HN3.out; omega
    clear hc hnt hle hh0 hh1 hk ho H4 HK4
    by_cases hlt : i < n3
    · have i1 : (i : Int) < n3 := by omega
      obtain ⟨adr, x0, x1, x2, x3, x4, rfl, hbl, hin, hx40, hx41⟩ := rows_act hR3.out i hlt
      have hin' := hin.below9 HC.out.sv.bel hbl
      obtain ⟨c0, c1, c2, c3', c4⟩ := hin'
      obtain ⟨ad, rfl⟩ : ∃ ad : Nat, x4 = ad := ⟨x4.toNat, by omega⟩
      have HAD : Hid (ad ≤ 4294967295) := Lib.hid (by omega)
      clear hin hbl hx40 hx41
      go_upto_region 15 with fail
      clear c0 c1 c2 c3' c4
      obtain ⟨w5, hw5⟩ : ∃ w5, w5 = wr.alloc (.cells #[.int .i64 x0, .int .i64 x1, .int .i64 x2, .int .i64 x3, .int .u32 (ad : Int)] 38 (0, 0)) := ⟨_, rfl⟩
      rw [← hw5]
      have H5 : Hid (CV w w5 S a b N cb (s : Int) (ltB nn) (fun _ => 0) W (ltB np) (fun _ => 0) W2 hits v E) := Lib.hid (by rw [hw5]; exact HC.out.below ((Below.refl _ _).alloc (Nat.le_refl _) _))
      have HK5 : Hid (KeyC w5 kb k0 k1 k2 k3 k4) := Lib.hid (by rw [hw5]; exact HK.out.below ((Below.refl _ _).alloc (Nat.le_refl _) _))
      have HD5 : Hid (KeyC w5 wr.heap.size x0 x1 x2 x3 ad) := Lib.hid (by rw [hw5]; exact KeyC.new _ _ _ _ _ _ _)
      obtain ⟨db, hdb⟩ : ∃ db, Hid (wr.heap.size = db) := ⟨_, Lib.hid rfl⟩
      have HOD : Hid (OutC cb v db) := Lib.hid ⟨by rw [← hdb.out]; have := HC.out.ca.cl; omega, fun e => by rw [← hdb.out] at e; have := (HC.out.ca.row.lt _ e).2; omega⟩
      have HDN : Hid (N ≤ db) := Lib.hid (by rw [← hdb.out]; exact HC.out.nN)
      rw [hdb.out] at HD5 ⊢
      clear hw5 hdb HC HK
      have HRm : Hid ((E.length : Int) ≤ s ∧ (1 : Int) ≤ s ∧ (s : Int) ≤ 64) := Lib.hid (by have := HG.out; omega)
      by_cases h1 : x0 = 1
      · subst h1
        obtain ⟨full, hfull⟩ : ∃ full, Hid (((E.length : Int) == (s : Int)) = full) := ⟨_, Lib.hid rfl⟩
        obtain ⟨ids, pg, at_, r, ft, hw⟩ := way_ex (a := a) (b := b) (np := np) HNT.out 5 k0 k1 k2 k3 k4 5 ad false HKT.out.d.1 (by decide)
        have HW := Lib.hid hw
        have HCF := Lib.hid (cvfind k0 k1 k2 k3 k4 ad HAD.out ids pg at_ r ft full HRm hfull (Lib.hid (by have := HG.out; omega)) HW _ H5.out)
        have q0 := HK5.out.c0
        have q1 := HK5.out.c1
        have q2 := HK5.out.c2
        have q3 := HK5.out.c3
        have q4 := HK5.out.c4
        have b0 := HD5.out.c0
        have b4 := HD5.out.c4
        clear hw
        go_upto_region 21 with (first
          | (go_at_call 16; (with_reducible refine HCF.out.mono ?_); rintro e w6 ⟨rfl, h6, v6, E6, hm, ho, hk, hv⟩; have H6 := Lib.hid hm; have HF6 := Lib.hid (ho.room ⟨HRm.out.1, HRm.out.2.1⟩ hfull.out); have HK6 := Lib.hid (HK5.out.keepB hk HO.out); have HD6 := Lib.hid (HD5.out.keepB hk HOD.out); have HO6 := Lib.hid (HO.out.next HK5.out.lt hv); clear HCF hm ho hk hv q0 q1 q2 q3 q4 b0 b4))
        obtain ⟨w7, hw7⟩ : ∃ w7, w7 = w6.alloc (.cells #[.int .i64 pg, .int .i64 at_, .bool r] 40 (0, 0)) := ⟨_, rfl⟩
        rw [← hw7]
        have H7 : Hid (CV w w7 S a b N cb (s : Int) (ltB nn) (fun _ => 0) W (ltB np) (fun _ => 0) W2 h6 v6 E6) := Lib.hid (by rw [hw7]; exact H6.out.below ((Below.refl _ _).alloc (Nat.le_refl _) _))
        have HK7 : Hid (KeyC w7 kb k0 k1 k2 k3 k4) := Lib.hid (by rw [hw7]; exact HK6.out.below ((Below.refl _ _).alloc (Nat.le_refl _) _))
        have HD7 : Hid (KeyC w7 db 1 x1 x2 x3 ad) := Lib.hid (by rw [hw7]; exact HD6.out.below ((Below.refl _ _).alloc (Nat.le_refl _) _))
        have HP7 : Hid (PlC w7 w6.heap.size pg at_ r) := Lib.hid (by rw [hw7]; exact PlC.new _ _ _ _ _)
        obtain ⟨pb, hpb⟩ : ∃ pb, w6.heap.size = pb := ⟨_, rfl⟩
        rw [hpb] at HP7 ⊢
        clear hw7 hpb H6 HK6 HD6 H5 HK5 HD5
        have q0 := HK7.out.c0
        have q1 := HK7.out.c1
        have q2 := HK7.out.c2
        have q3 := HK7.out.c3
        have q4 := HK7.out.c4
        have b4 := HD7.out.c4
        go_upto_region 22 with (first
          | (go_at_call 17; (with_reducible refine (pWalk_is k0 k1 k2 k3 k4 _ ids pg at_ r ft HW _ H7.out.sv.st).mono ?_); rintro e w8 ⟨rfl, hb⟩; have H8 := Lib.hid (H7.out.below hb); have HK8 := Lib.hid (HK7.out.below hb); have HP8 := Lib.hid (HP7.out.below hb); clear hb q0 q1 q2 q3 q4 b4))
        obtain ⟨w9, hw9⟩ : ∃ w9, w9 = w8.alloc (.cells #[.int .i64 pg, .int .i64 at_, .bool r] 40 (0, 0)) := ⟨_, rfl⟩
        rw [← hw9]
        have H9 : Hid (CV w w9 S a b N cb (s : Int) (ltB nn) (fun _ => 0) W (ltB np) (fun _ => 0) W2 h6 v6 E6) := Lib.hid (by rw [hw9]; exact H8.out.below ((Below.refl _ _).alloc (Nat.le_refl _) _))
        have HK9 : Hid (KeyC w9 kb k0 k1 k2 k3 k4) := Lib.hid (by rw [hw9]; exact HK8.out.below ((Below.refl _ _).alloc (Nat.le_refl _) _))
        have HP9 : Hid (PlC w9 pb pg at_ r) := Lib.hid (by rw [hw9]; exact HP8.out.below ((Below.refl _ _).alloc (Nat.le_refl _) _))
        have HQ9 : Hid (PlC w9 w8.heap.size pg at_ r) := Lib.hid (by rw [hw9]; exact PlC.new _ _ _ _ _)
        obtain ⟨qb, hqb⟩ : ∃ qb, w8.heap.size = qb := ⟨_, rfl⟩
        rw [hqb] at HQ9 ⊢
        clear hw9 hqb H7 HK7 HD7 HP7 H8 HK8 HP8
        have p0 := HP9.out.c0
        have p1 := HP9.out.c1
        have p2 := HP9.out.c2
        have r0 := HQ9.out.c0
        have r1 := HQ9.out.c1
        have r2 := HQ9.out.c2
        obtain ⟨n6, hn6⟩ : ∃ n6 : Nat, Hid (E6.length = n6) := ⟨_, Lib.hid rfl⟩
        have hgt : ¬ (s : Int) < (n6 : Int) := by have := HF6.out; have := hn6.out; omega
        go_wp2_with (first
          | (go_at_call 22; (with_reducible refine (clen_is n6 hn6 _ H9.out).mono ?_); rintro e w10 ⟨rfl, rfl⟩))
        go_roundw
        case rel => exact ⟨i + 1, W, v6, E6, h6, by omega, by go_num, H9.out, HNT.out, HF6.out.1, by have := HF6.out; have := HG.out; omega, by have := HF6.out; have := HG.out; push_cast; omega, HK9.out, HO6.out⟩
        case measure => simp [intOf]; omega
      · have h1b : (x0 == 1) = false := by simp [h1]
        by_cases h2 : x0 = 2
        · subst h2
          obtain ⟨ai, ha15, hav⟩ := and15_in x1
          obtain ⟨sl, hs15, hsv⟩ := and15_in x3
          obtain ⟨tl, ht15, htv⟩ := and15_in x2
          have HAI := Lib.hid (And.intro ha15 (And.intro hs15 ht15))
          have HSV := Lib.hid hsv
          have HTV := Lib.hid htv
          have HNB := Lib.hid (fun x hx => H5.out.ca.noNode x hx)
          have b0 := HD5.out.c0
          have b1 := HD5.out.c1
          clear h1 ha15 hs15 ht15 hsv htv
          go_upto_region 26 with fail
          clear b0 b1 hav
          go_cut [21, 22] (fun bv tv wx => ∃ (bb : Nat) (y0 y1 y2 y3 y4 : Int) (t : Bool), bv = .pointer (some ⟨bb, 0, none⟩) ∧ tv = .bool t ∧ KeyC wx bb y0 y1 y2 y3 y4 ∧ (t = true → KeyT y0 y1 y2 y3 y4 ∧ ai < nn) ∧ Below w5.heap.size w5 wx ∧ w5.heap.size ≤ bb)
          case first =>
            have sE := HSV.out
            have HS2 : Hid (∀ w', Below w5.heap.size w5 w' → (World.cell? w' ⟨S, 0, none⟩ = some (.pointer (some ⟨a.P, 0, none⟩)) ∧ World.cell? w' ⟨db, 3, none⟩ = some (.int .i64 x3))) := Lib.hid (fun w' hb => ⟨(H5.out.below hb).sv.st.s0, (HD5.out.below hb).c3⟩)
            have HBD := Lib.hid ((Below.refl w5.heap.size w5).drew)
            refine wp_region_noPanic ?_
            refine wp_region_held_drew (S := fun w' => (World.cell? w' ⟨S, 0, none⟩ = some (.pointer (some ⟨a.P, 0, none⟩)) ∧ World.cell? w' ⟨db, 3, none⟩ = some (.int .i64 x3))) (by kernel_rfl) (HS2.out _ HBD.out) (fun hHeld => ?_)
            refine wpAnyH_take (i := 0) (v := ?_) (by rfl) (by kernel_rfl) (by kernel_rfl) (by kernel_rfl) (fun _ _ _ h => h) (Or.inl ⟨by kernel_rfl, ?_⟩) (by assumption) ?_; rotate_left 1; (focus (intro w hSw; (try dsimp only at hSw); simp only [List.getElem_toArray, List.getElem_cons_succ, List.getElem_cons_zero]; all_goals go_simp; all_goals (try with_reducible rfl))); (try simp only [Act.put, List.getElem_toArray, List.getElem_cons_succ, List.getElem_cons_zero, List.setIfInBounds_toArray, List.set_cons_zero, List.set_cons_succ])
            refine wpAnyH_take (i := 1) (v := ?_) (by rfl) (by kernel_rfl) (by kernel_rfl) (by kernel_rfl) (fun _ _ _ h => h) (Or.inl ⟨by kernel_rfl, ?_⟩) (by assumption) ?_; rotate_left 1; (focus (intro w hSw; (try dsimp only at hSw); simp only [List.getElem_toArray, List.getElem_cons_succ, List.getElem_cons_zero]; all_goals go_simp; all_goals (try with_reducible rfl))); (try simp only [Act.put, List.getElem_toArray, List.getElem_cons_succ, List.getElem_cons_zero, List.setIfInBounds_toArray, List.set_cons_zero, List.set_cons_succ])
            refine wpAnyH_take (i := 2) (v := ?_) (by rfl) (by kernel_rfl) (by kernel_rfl) (by kernel_rfl) (fun _ _ _ h => h) (Or.inl ⟨by kernel_rfl, ?_⟩) (by assumption) ?_; rotate_left 1; (focus (intro w hSw; (try dsimp only at hSw); simp only [List.getElem_toArray, List.getElem_cons_succ, List.getElem_cons_zero]; all_goals go_simp; all_goals (try with_reducible rfl))); (try simp only [Act.put, List.getElem_toArray, List.getElem_cons_succ, List.getElem_cons_zero, List.setIfInBounds_toArray, List.set_cons_zero, List.set_cons_succ])
            refine wpAnyH_take (i := 3) (v := ?_) (by rfl) (by kernel_rfl) (by kernel_rfl) (by kernel_rfl) (fun _ _ _ h => h) (Or.inl ⟨by kernel_rfl, ?_⟩) (by assumption) ?_; rotate_left 1; (focus (intro w hSw; (try dsimp only at hSw); simp only [List.getElem_toArray, List.getElem_cons_succ, List.getElem_cons_zero]; all_goals go_simp; all_goals (try with_reducible rfl))); (try simp only [Act.put, List.getElem_toArray, List.getElem_cons_succ, List.getElem_cons_zero, List.setIfInBounds_toArray, List.set_cons_zero, List.set_cons_succ])
            refine wpAnyH_take (i := 4) (v := ?_) (by rfl) (by kernel_rfl) (by kernel_rfl) (by kernel_rfl) (fun _ _ _ h => h) (Or.inl ⟨by kernel_rfl, ?_⟩) (by assumption) ?_; rotate_left 1; (focus (intro w hSw; (try dsimp only at hSw); simp only [List.getElem_toArray, List.getElem_cons_succ, List.getElem_cons_zero]; all_goals go_simp; all_goals (try with_reducible rfl))); (try simp only [Act.put, List.getElem_toArray, List.getElem_cons_succ, List.getElem_cons_zero, List.setIfInBounds_toArray, List.set_cons_zero, List.set_cons_succ])
            refine wpAnyH_take (i := 5) (v := ?_) (by rfl) (by kernel_rfl) (by kernel_rfl) (by kernel_rfl) (fun _ _ _ h => h) (Or.inl ⟨by kernel_rfl, ?_⟩) (by assumption) ?_; rotate_left 1; (focus (intro w hSw; (try dsimp only at hSw); simp only [List.getElem_toArray, List.getElem_cons_succ, List.getElem_cons_zero]; all_goals go_simp; all_goals (try with_reducible rfl))); (try simp only [Act.put, List.getElem_toArray, List.getElem_cons_succ, List.getElem_cons_zero, List.setIfInBounds_toArray, List.set_cons_zero, List.set_cons_succ])
            refine wpAnyH_take (i := 6) (v := ?_) (by rfl) (by kernel_rfl) (by kernel_rfl) (by kernel_rfl) (fun _ _ _ h => h) (Or.inl ⟨by kernel_rfl, ?_⟩) (by assumption) ?_; rotate_left 1; (focus (intro w hSw; (try dsimp only at hSw); simp only [List.getElem_toArray, List.getElem_cons_succ, List.getElem_cons_zero]; all_goals go_simp; all_goals (try with_reducible rfl))); (try simp only [Act.put, List.getElem_toArray, List.getElem_cons_succ, List.getElem_cons_zero, List.setIfInBounds_toArray, List.set_cons_zero, List.set_cons_succ])
            refine wpAnyH_take (i := 7) (v := ?_) (by rfl) (by kernel_rfl) (by kernel_rfl) (by kernel_rfl) (fun _ _ _ h => h) (Or.inl ⟨by kernel_rfl, ?_⟩) (by assumption) ?_; rotate_left 1; (focus (intro w hSw; (try dsimp only at hSw); simp only [List.getElem_toArray, List.getElem_cons_succ, List.getElem_cons_zero]; all_goals go_simp; all_goals (try with_reducible rfl))); (try simp only [Act.put, List.getElem_toArray, List.getElem_cons_succ, List.getElem_cons_zero, List.setIfInBounds_toArray, List.set_cons_zero, List.set_cons_succ])
            refine wpAnyH_ready (rs := [8, 12]) (by kernel_rfl) (by simp) ?_
            refine AllReadyH.cons (by rfl) (fun K hK => ?_) (AllReadyH.cons (by rfl) (fun K hK => ?_) AllReadyH.nil)
            · rw [if_pos (by kernel_rfl)]; simp only [List.getElem_toArray, List.getElem_cons_succ, List.getElem_cons_zero]
              have HCF := Lib.hid (nget_any HNT.out ai sl (by have := HN.out; have := HAI.out; omega) (by have := HAI.out; omega) _ (H5.out.below HBD.out).sv.st.nd)
              go_wp2_with (first
                | (go_at_call 18; (with_reducible refine HCF.out.mono ?_); rintro e w6 ⟨y0, y1, y2, y3, y4, t, rfl, hb, hkt⟩; have HB6 := Lib.hid (HBD.out.trans (hb.mono HBD.out.size)); have HT6 := Lib.hid hkt; clear HCF hb hkt))
              refine hK.out _ _ (HS2.out _ HB6.out) (fun hHeld => ?_)
              clear hK K
              (try simp only [Act.put, List.getElem_toArray, List.getElem_cons_succ, List.getElem_cons_zero, List.setIfInBounds_toArray, List.set_cons_zero, List.set_cons_succ])
              refine wpAnyH_take (i := 9) (v := ?_) (by rfl) (by kernel_rfl) (by kernel_rfl) (by kernel_rfl) (fun _ _ _ h => h) (Or.inl ⟨by kernel_rfl, ?_⟩) (by assumption) ?_; rotate_left 1; (focus (intro w hSw; (try dsimp only at hSw); simp only [List.getElem_toArray, List.getElem_cons_succ, List.getElem_cons_zero]; all_goals go_simp; all_goals (try with_reducible rfl))); (try simp only [Act.put, List.getElem_toArray, List.getElem_cons_succ, List.getElem_cons_zero, List.setIfInBounds_toArray, List.set_cons_zero, List.set_cons_succ])
              refine wpAnyH_take (i := 10) (v := ?_) (by rfl) (by kernel_rfl) (by kernel_rfl) (by kernel_rfl) (fun _ _ _ h => h) (Or.inl ⟨by kernel_rfl, ?_⟩) (by assumption) ?_; rotate_left 1; (focus (intro w hSw; (try dsimp only at hSw); simp only [List.getElem_toArray, List.getElem_cons_succ, List.getElem_cons_zero]; all_goals go_simp; all_goals (try with_reducible rfl))); (try simp only [Act.put, List.getElem_toArray, List.getElem_cons_succ, List.getElem_cons_zero, List.setIfInBounds_toArray, List.set_cons_zero, List.set_cons_succ])
              refine wpAnyH_take (i := 11) (v := ?_) (by rfl) (by kernel_rfl) (by kernel_rfl) (by kernel_rfl) (fun _ _ _ h => h) (Or.inl ⟨by kernel_rfl, ?_⟩) (by assumption) ?_; rotate_left 1; (focus (intro w hSw; (try dsimp only at hSw); simp only [List.getElem_toArray, List.getElem_cons_succ, List.getElem_cons_zero]; all_goals go_simp; all_goals (try with_reducible rfl))); (try simp only [Act.put, List.getElem_toArray, List.getElem_cons_succ, List.getElem_cons_zero, List.setIfInBounds_toArray, List.set_cons_zero, List.set_cons_succ])
              refine wpAnyH_ready (rs := [12]) (by kernel_rfl) (by simp) ?_; refine AllReadyH.cons (by rfl) (fun K hK => ?_) AllReadyH.nil; rw [if_pos (by kernel_rfl)]; simp only [List.getElem_toArray, List.getElem_cons_succ, List.getElem_cons_zero]
              have HA := Lib.hid (fun o => HB6.out.alloc HB6.out.size o)
              go_wp2_with fail
              refine hK.out _ _ (HS2.out _ (HA.out _)) (fun hHeld => ?_)
              clear hK K
              (try simp only [Act.put, List.getElem_toArray, List.getElem_cons_succ, List.getElem_cons_zero, List.setIfInBounds_toArray, List.set_cons_zero, List.set_cons_succ])
              refine wpAnyH_ready (rs := [13]) (by kernel_rfl) (by simp) ?_; refine AllReadyH.cons (by rfl) (fun K hK => ?_) AllReadyH.nil; rw [if_pos (by kernel_rfl)]; simp only [List.getElem_toArray, List.getElem_cons_succ, List.getElem_cons_zero]
              go_wp2_with fail
              refine hK.out _ _ (HS2.out _ (HA.out _)) (fun hHeld => ?_)
              clear hK K
              (try simp only [Act.put, List.getElem_toArray, List.getElem_cons_succ, List.getElem_cons_zero, List.setIfInBounds_toArray, List.set_cons_zero, List.set_cons_succ])
              refine wpAnyH_take (i := 14) (v := ?_) (by rfl) (by kernel_rfl) (by kernel_rfl) (by kernel_rfl) (fun _ _ _ h => h) (Or.inl ⟨by kernel_rfl, ?_⟩) (by assumption) ?_; rotate_left 1; (focus (intro w hSw; (try dsimp only at hSw); simp only [List.getElem_toArray, List.getElem_cons_succ, List.getElem_cons_zero]; all_goals go_simp; all_goals (try with_reducible rfl))); (try simp only [Act.put, List.getElem_toArray, List.getElem_cons_succ, List.getElem_cons_zero, List.setIfInBounds_toArray, List.set_cons_zero, List.set_cons_succ])
              refine wpAnyH_done (by kernel_rfl) ?_ _
              refine NoPanic.normal ?_
              go_wp2_with fail
              go_meet
              exact ⟨w6.heap.size, y0, y1, y2, y3, y4, t, rfl, rfl, KeyC.new _ _ _ _ _ _ _, HT6.out, HA.out _, HB6.out.size⟩
            · rw [if_pos (by kernel_rfl)]; simp only [List.getElem_toArray, List.getElem_cons_succ, List.getElem_cons_zero]
              go_wp2_with fail
              obtain ⟨wZ, hwZ⟩ : ∃ wZ, wZ = (w5.alloc (.cells #[.int .i64 0, .int .i64 0, .int .i64 0, .int .i64 0, .int .u32 0] 29 (0, 0))).drew := ⟨_, rfl⟩
              rw [← hwZ]
              have HBZ : Hid (Below w5.heap.size w5 wZ) := Lib.hid (by rw [hwZ]; exact ((Below.refl _ _).alloc (Nat.le_refl _) _ : Below w5.heap.size w5 _).drew)
              have HZ : Hid (KeyC wZ w5.heap.size 0 0 0 0 0) := Lib.hid (by rw [hwZ]; exact (KeyC.new _ _ _ _ _ _ _).below (Below.refl _ _).drew)
              obtain ⟨bb, hbb⟩ : ∃ bb, Hid (w5.heap.size = bb) := ⟨_, Lib.hid rfl⟩
              rw [hbb.out] at HZ ⊢
              clear hwZ
              refine hK.out _ _ (HS2.out _ HBZ.out) (fun hHeld => ?_)
              clear hK K
              (try simp only [Act.put, List.getElem_toArray, List.getElem_cons_succ, List.getElem_cons_zero, List.setIfInBounds_toArray, List.set_cons_zero, List.set_cons_succ])
              have HCF := Lib.hid (nget_any HNT.out ai sl (by have := HN.out; have := HAI.out; omega) (by have := HAI.out; omega) _ (H5.out.below HBZ.out).sv.st.nd)
              refine wpAnyH_ready (rs := [8]) (by kernel_rfl) (by simp) ?_; refine AllReadyH.cons (by rfl) (fun K hK => ?_) AllReadyH.nil; rw [if_pos (by kernel_rfl)]; simp only [List.getElem_toArray, List.getElem_cons_succ, List.getElem_cons_zero]
              go_wp2_with (first
                | (go_at_call 18; (with_reducible refine HCF.out.mono ?_); rintro e w6 ⟨y0, y1, y2, y3, y4, t, rfl, hb, hkt⟩; have HB6 := Lib.hid (HBZ.out.trans (hb.mono HBZ.out.size)); have HZ6 := Lib.hid (HZ.out.below hb); have HT6 := Lib.hid hkt; clear HCF hb hkt))
              refine hK.out _ _ (HS2.out _ HB6.out) (fun hHeld => ?_)
              clear hK K
              (try simp only [Act.put, List.getElem_toArray, List.getElem_cons_succ, List.getElem_cons_zero, List.setIfInBounds_toArray, List.set_cons_zero, List.set_cons_succ])
              refine wpAnyH_take (i := 9) (v := ?_) (by rfl) (by kernel_rfl) (by kernel_rfl) (by kernel_rfl) (fun _ _ _ h => h) (Or.inl ⟨by kernel_rfl, ?_⟩) (by assumption) ?_; rotate_left 1; (focus (intro w hSw; (try dsimp only at hSw); simp only [List.getElem_toArray, List.getElem_cons_succ, List.getElem_cons_zero]; all_goals go_simp; all_goals (try with_reducible rfl))); (try simp only [Act.put, List.getElem_toArray, List.getElem_cons_succ, List.getElem_cons_zero, List.setIfInBounds_toArray, List.set_cons_zero, List.set_cons_succ])
              refine wpAnyH_take (i := 10) (v := ?_) (by rfl) (by kernel_rfl) (by kernel_rfl) (by kernel_rfl) (fun _ _ _ h => h) (Or.inl ⟨by kernel_rfl, ?_⟩) (by assumption) ?_; rotate_left 1; (focus (intro w hSw; (try dsimp only at hSw); simp only [List.getElem_toArray, List.getElem_cons_succ, List.getElem_cons_zero]; all_goals go_simp; all_goals (try with_reducible rfl))); (try simp only [Act.put, List.getElem_toArray, List.getElem_cons_succ, List.getElem_cons_zero, List.setIfInBounds_toArray, List.set_cons_zero, List.set_cons_succ])
              refine wpAnyH_take (i := 11) (v := ?_) (by rfl) (by kernel_rfl) (by kernel_rfl) (by kernel_rfl) (fun _ _ _ h => h) (Or.inl ⟨by kernel_rfl, ?_⟩) (by assumption) ?_; rotate_left 1; (focus (intro w hSw; (try dsimp only at hSw); simp only [List.getElem_toArray, List.getElem_cons_succ, List.getElem_cons_zero]; all_goals go_simp; all_goals (try with_reducible rfl))); (try simp only [Act.put, List.getElem_toArray, List.getElem_cons_succ, List.getElem_cons_zero, List.setIfInBounds_toArray, List.set_cons_zero, List.set_cons_succ])
              refine wpAnyH_ready (rs := [13]) (by kernel_rfl) (by simp) ?_; refine AllReadyH.cons (by rfl) (fun K hK => ?_) AllReadyH.nil; rw [if_pos (by kernel_rfl)]; simp only [List.getElem_toArray, List.getElem_cons_succ, List.getElem_cons_zero]
              have z0' := HZ6.out.c0
              have z1' := HZ6.out.c1
              have z2' := HZ6.out.c2
              have z3' := HZ6.out.c3
              have z4' := HZ6.out.c4
              have g0 := HZ6.out.fr 0
              have g1 := HZ6.out.fr 1
              have g2 := HZ6.out.fr 2
              have g3 := HZ6.out.fr 3
              have g4 := HZ6.out.fr 4
              go_wp2_with fail
              have HB7 := Lib.hid (below_set5 HB6.out (Nat.le_of_eq hbb.out) y0 y1 y2 y3 y4)
              refine hK.out _ _ (HS2.out _ HB7.out) (fun hHeld => ?_)
              clear hK K
              (try simp only [Act.put, List.getElem_toArray, List.getElem_cons_succ, List.getElem_cons_zero, List.setIfInBounds_toArray, List.set_cons_zero, List.set_cons_succ])
              refine wpAnyH_take (i := 14) (v := ?_) (by rfl) (by kernel_rfl) (by kernel_rfl) (by kernel_rfl) (fun _ _ _ h => h) (Or.inl ⟨by kernel_rfl, ?_⟩) (by assumption) ?_; rotate_left 1; (focus (intro w hSw; (try dsimp only at hSw); simp only [List.getElem_toArray, List.getElem_cons_succ, List.getElem_cons_zero]; all_goals go_simp; all_goals (try with_reducible rfl))); (try simp only [Act.put, List.getElem_toArray, List.getElem_cons_succ, List.getElem_cons_zero, List.setIfInBounds_toArray, List.set_cons_zero, List.set_cons_succ])
              refine wpAnyH_done (by kernel_rfl) ?_ _
              refine NoPanic.normal ?_
              go_wp2_with fail
              go_meet
              exact ⟨bb, y0, y1, y2, y3, y4, t, rfl, rfl, HZ6.out.set y0 y1 y2 y3 y4, HT6.out, HB7.out, Nat.le_of_eq hbb.out⟩
          case rest =>
            obtain ⟨bb, y0, y1, y2, y3, y4, t, rfl, rfl, hky, hkt, hbw, hbb⟩ := hcut
            have HY6 := Lib.hid hky
            have HT6 := Lib.hid hkt
            have H6 := Lib.hid (H5.out.below hbw)
            have HK6 := Lib.hid (HK5.out.below hbw)
            have HD6 := Lib.hid (HD5.out.below hbw)
            have HBb : Hid (w5.heap.size ≤ bb) := Lib.hid hbb
            clear hky hkt hbw
            cases t
            · go_wp2_with fail
              go_roundw
              case rel => exact ⟨i + 1, W, v, E, hits, by omega, by go_num, H6.out, HNT.out, HG.out.1, HG.out.2.1, by have := HG.out; push_cast; omega, HK6.out, HO.out⟩
              case measure => simp [intOf]; omega
            · obtain ⟨hk1, hk2⟩ := HT6.out rfl
              have HKY := Lib.hid hk1
              have HAN := Lib.hid hk2
              clear hk1 hk2
              have HFar : Hid (N ≤ bb ∧ cb ≠ bb ∧ v.ownBlock ≠ some bb ∧ kb ≠ bb ∧ db ≠ bb) := Lib.hid (by have := HBb.out; have := H5.out.nN; have := H5.out.ca.cl; have := HK5.out.lt; have := HD5.out.lt; exact ⟨by omega, by omega, fun e => by have := (H5.out.ca.row.lt _ e).2; omega, by omega, by omega⟩)
              have HNo := Lib.hid (HNB.out bb HBb.out)
              have b3 := HD6.out.c3
              go_upto_if 153 with fail
              go_cut [] (fun wx => ∃ (e0 e1 e2 e3 e4 : Int), KeyC wx bb e0 e1 e2 e3 e4 ∧ KeyT e0 e1 e2 e3 e4 ∧ (CV w wx S a b N cb (s : Int) (ltB nn) (fun _ => 0) W (ltB np) (fun _ => 0) W2 hits v E) ∧ KeyC wx kb k0 k1 k2 k3 k4 ∧ KeyC wx db 2 x1 x2 x3 ad)
              case first =>
                by_cases h16 : bits BinOp.and IntKind.i64 x3 16 = 0
                · have e1 : (bits BinOp.and IntKind.i64 x3 16 == 0) = true := by simp [h16]
                  have e2 : (bits BinOp.and IntKind.i64 x3 16 != 0) = false := by simp [h16]
                  clear h16
                  go_wp2_with fail
                  go_meet
                  exact ⟨_, _, _, _, _, HY6.out, HKY.out, H6.out, HK6.out, HD6.out⟩
                · have e1 : (bits BinOp.and IntKind.i64 x3 16 == 0) = false := by simp [h16]
                  have e2 : (bits BinOp.and IntKind.i64 x3 16 != 0) = true := by simp [h16]
                  have z0' := HY6.out.c0
                  have z1' := HY6.out.c1
                  have z2' := HY6.out.c2
                  have z3' := HY6.out.c3
                  have z4' := HY6.out.c4
                  have g0 := HY6.out.fr 0
                  have g1 := HY6.out.fr 1
                  have g2 := HY6.out.fr 2
                  have g3 := HY6.out.fr 3
                  have g4 := HY6.out.fr 4
                  clear h16
                  go_wp2_with fail
                  go_meet
                  have hfr := HFar.out
                  have hset : ∀ q, q ≠ bb → (((((wc.setCell ⟨bb, 0, none⟩ (.int .i64 0)).setCell ⟨bb, 1, none⟩ (.int .i64 0)).setCell ⟨bb, 2, none⟩ (.int .i64 0)).setCell ⟨bb, 3, none⟩ (.int .i64 0)).setCell ⟨bb, 4, none⟩ (.int .u32 0)).heap[q]? = wc.heap[q]? := fun q hq => by rw [set_heap _ _ _ _ _ hq, set_heap _ _ _ _ _ hq, set_heap _ _ _ _ _ hq, set_heap _ _ _ _ _ hq, set_heap _ _ _ _ _ hq]
                  exact ⟨0, 0, 0, 0, 0, HY6.out.set 0 0 0 0 0, KeyT.void, ((((H6.out.put bb 0 hfr.1 hfr.2.1 hfr.2.2.1 HNo.out _).put bb 1 hfr.1 hfr.2.1 hfr.2.2.1 HNo.out _).put bb 2 hfr.1 hfr.2.1 hfr.2.2.1 HNo.out _).put bb 3 hfr.1 hfr.2.1 hfr.2.2.1 HNo.out _).put bb 4 hfr.1 hfr.2.1 hfr.2.2.1 HNo.out _, HK6.out.same' (by simp) (hset kb hfr.2.2.2.1), HD6.out.same' (by simp) (hset db hfr.2.2.2.2)⟩
              case rest =>
                obtain ⟨e0, e1, e2, e3, e4, hky, hkt, hcv, hkk, hkd⟩ := hcut
                have HE7 := Lib.hid hky
                have HKT7 := Lib.hid hkt
                have H7 := Lib.hid hcv
                have HK7 := Lib.hid hkk
                have HD7 := Lib.hid hkd
                clear hky hkt hcv hkk hkd b3
                go_upto_region 30 with fail
                have sE := HTV.out
                have HBD := Lib.hid ((Below.refl wc.heap.size wc).drew)
                have HS3 : Hid (∀ w', World.cell? w' ⟨S, 0, none⟩ = some (.pointer (some ⟨a.P, 0, none⟩)) → KeyC w' db 2 x1 x2 x3 ad → KeyC w' bb e0 e1 e2 e3 e4 → (World.cell? w' ⟨S, 0, none⟩ = some (.pointer (some ⟨a.P, 0, none⟩)) ∧ World.cell? w' ⟨db, 2, none⟩ = some (.int .i64 x2) ∧ World.cell? w' ⟨bb, 0, none⟩ = some (.int .i64 e0) ∧ World.cell? w' ⟨bb, 1, none⟩ = some (.int .i64 e1) ∧ World.cell? w' ⟨bb, 2, none⟩ = some (.int .i64 e2) ∧ World.cell? w' ⟨bb, 3, none⟩ = some (.int .i64 e3) ∧ World.cell? w' ⟨bb, 4, none⟩ = some (.int .u32 e4))) := Lib.hid (fun w' h0 hd hk => ⟨h0, hd.c2, hk.c0, hk.c1, hk.c2, hk.c3, hk.c4⟩)
                refine wp_region_noPanic ?_
                refine wp_region_held_drew (S := fun w' => (World.cell? w' ⟨S, 0, none⟩ = some (.pointer (some ⟨a.P, 0, none⟩)) ∧ World.cell? w' ⟨db, 2, none⟩ = some (.int .i64 x2) ∧ World.cell? w' ⟨bb, 0, none⟩ = some (.int .i64 e0) ∧ World.cell? w' ⟨bb, 1, none⟩ = some (.int .i64 e1) ∧ World.cell? w' ⟨bb, 2, none⟩ = some (.int .i64 e2) ∧ World.cell? w' ⟨bb, 3, none⟩ = some (.int .i64 e3) ∧ World.cell? w' ⟨bb, 4, none⟩ = some (.int .u32 e4))) (by kernel_rfl) (HS3.out _ (H7.out.below HBD.out).sv.st.s0 (HD7.out.below HBD.out) (HE7.out.below HBD.out)) (fun hHeld => ?_)
                refine wpAnyH_take (i := 0) (v := ?_) (by rfl) (by kernel_rfl) (by kernel_rfl) (by kernel_rfl) (fun _ _ _ h => h) (Or.inl ⟨by kernel_rfl, ?_⟩) (by assumption) ?_; rotate_left 1; (focus (intro w hSw; (try dsimp only at hSw); simp only [List.getElem_toArray, List.getElem_cons_succ, List.getElem_cons_zero]; all_goals go_simp; all_goals (try with_reducible rfl))); (try simp only [Act.put, List.getElem_toArray, List.getElem_cons_succ, List.getElem_cons_zero, List.setIfInBounds_toArray, List.set_cons_zero, List.set_cons_succ])
                refine wpAnyH_take (i := 1) (v := ?_) (by rfl) (by kernel_rfl) (by kernel_rfl) (by kernel_rfl) (fun _ _ _ h => h) (Or.inl ⟨by kernel_rfl, ?_⟩) (by assumption) ?_; rotate_left 1; (focus (intro w hSw; (try dsimp only at hSw); simp only [List.getElem_toArray, List.getElem_cons_succ, List.getElem_cons_zero]; all_goals go_simp; all_goals (try with_reducible rfl))); (try simp only [Act.put, List.getElem_toArray, List.getElem_cons_succ, List.getElem_cons_zero, List.setIfInBounds_toArray, List.set_cons_zero, List.set_cons_succ])
                refine wpAnyH_take (i := 2) (v := ?_) (by rfl) (by kernel_rfl) (by kernel_rfl) (by kernel_rfl) (fun _ _ _ h => h) (Or.inl ⟨by kernel_rfl, ?_⟩) (by assumption) ?_; rotate_left 1; (focus (intro w hSw; (try dsimp only at hSw); simp only [List.getElem_toArray, List.getElem_cons_succ, List.getElem_cons_zero]; all_goals go_simp; all_goals (try with_reducible rfl))); (try simp only [Act.put, List.getElem_toArray, List.getElem_cons_succ, List.getElem_cons_zero, List.setIfInBounds_toArray, List.set_cons_zero, List.set_cons_succ])
                refine wpAnyH_take (i := 3) (v := ?_) (by rfl) (by kernel_rfl) (by kernel_rfl) (by kernel_rfl) (fun _ _ _ h => h) (Or.inl ⟨by kernel_rfl, ?_⟩) (by assumption) ?_; rotate_left 1; (focus (intro w hSw; (try dsimp only at hSw); simp only [List.getElem_toArray, List.getElem_cons_succ, List.getElem_cons_zero]; all_goals go_simp; all_goals (try with_reducible rfl))); (try simp only [Act.put, List.getElem_toArray, List.getElem_cons_succ, List.getElem_cons_zero, List.setIfInBounds_toArray, List.set_cons_zero, List.set_cons_succ])
                refine wpAnyH_take (i := 4) (v := ?_) (by rfl) (by kernel_rfl) (by kernel_rfl) (by kernel_rfl) (fun _ _ _ h => h) (Or.inl ⟨by kernel_rfl, ?_⟩) (by assumption) ?_; rotate_left 1; (focus (intro w hSw; (try dsimp only at hSw); simp only [List.getElem_toArray, List.getElem_cons_succ, List.getElem_cons_zero]; all_goals go_simp; all_goals (try with_reducible rfl))); (try simp only [Act.put, List.getElem_toArray, List.getElem_cons_succ, List.getElem_cons_zero, List.setIfInBounds_toArray, List.set_cons_zero, List.set_cons_succ])
                refine wpAnyH_take (i := 5) (v := ?_) (by rfl) (by kernel_rfl) (by kernel_rfl) (by kernel_rfl) (fun _ _ _ h => h) (Or.inl ⟨by kernel_rfl, ?_⟩) (by assumption) ?_; rotate_left 1; (focus (intro w hSw; (try dsimp only at hSw); simp only [List.getElem_toArray, List.getElem_cons_succ, List.getElem_cons_zero]; all_goals go_simp; all_goals (try with_reducible rfl))); (try simp only [Act.put, List.getElem_toArray, List.getElem_cons_succ, List.getElem_cons_zero, List.setIfInBounds_toArray, List.set_cons_zero, List.set_cons_succ])
                refine wpAnyH_take (i := 6) (v := ?_) (by rfl) (by kernel_rfl) (by kernel_rfl) (by kernel_rfl) (fun _ _ _ h => h) (Or.inl ⟨by kernel_rfl, ?_⟩) (by assumption) ?_; rotate_left 1; (focus (intro w hSw; (try dsimp only at hSw); simp only [List.getElem_toArray, List.getElem_cons_succ, List.getElem_cons_zero]; all_goals go_simp; all_goals (try with_reducible rfl))); (try simp only [Act.put, List.getElem_toArray, List.getElem_cons_succ, List.getElem_cons_zero, List.setIfInBounds_toArray, List.set_cons_zero, List.set_cons_succ])
                refine wpAnyH_take (i := 7) (v := ?_) (by rfl) (by kernel_rfl) (by kernel_rfl) (by kernel_rfl) (fun _ _ _ h => h) (Or.inl ⟨by kernel_rfl, ?_⟩) (by assumption) ?_; rotate_left 1; (focus (intro w hSw; (try dsimp only at hSw); simp only [List.getElem_toArray, List.getElem_cons_succ, List.getElem_cons_zero]; all_goals go_simp; all_goals (try with_reducible rfl))); (try simp only [Act.put, List.getElem_toArray, List.getElem_cons_succ, List.getElem_cons_zero, List.setIfInBounds_toArray, List.set_cons_zero, List.set_cons_succ])
                refine wpAnyH_take (i := 8) (v := ?_) (by rfl) (by kernel_rfl) (by kernel_rfl) (by kernel_rfl) (fun _ _ _ h => h) (Or.inl ⟨by kernel_rfl, ?_⟩) (by assumption) ?_; rotate_left 1; (focus (intro w hSw; (try dsimp only at hSw); simp only [List.getElem_toArray, List.getElem_cons_succ, List.getElem_cons_zero]; all_goals go_simp; all_goals (try with_reducible rfl))); (try simp only [Act.put, List.getElem_toArray, List.getElem_cons_succ, List.getElem_cons_zero, List.setIfInBounds_toArray, List.set_cons_zero, List.set_cons_succ])
                refine wpAnyH_ready (rs := [9]) (by kernel_rfl) (by simp) ?_; refine AllReadyH.cons (by rfl) (fun K hK => ?_) AllReadyH.nil; rw [if_pos (by kernel_rfl)]; simp only [List.getElem_toArray, List.getElem_cons_succ, List.getElem_cons_zero]
                have HTA : Hid (ltB nn ai = true) := Lib.hid (by have := HAN.out; simp [ltB]; omega)
                have HCF := Lib.hid (nset_any z1 z2 ai tl (by have := HN.out; have := HAI.out; omega) (by have := HAI.out; omega) HTA e0 e1 e2 e3 e4 _ (HE.out.below (H7.out.below HBD.out).sv.bel) (H7.out.below HBD.out).sv.st.nd (Lib.hid (HNT.out.all16 HAN.out).one))
                go_wp2_with (first
                  | (go_at_call 19; (with_reducible refine HCF.out.mono ?_); rintro e w8 ⟨v8, W8, rfl, hM, hb, hw⟩; have HM8 := Lib.hid hM; have HB8 := Lib.hid hb; have HW8 := Lib.hid hw; have HC8 := Lib.hid (cv_cache (H7.out.below HBD.out) hb); have hlo := H7.out.lo.n; have HK8 := Lib.hid ((HK7.out.below HBD.out).pbelow hb (by have := HKa.out; omega) (by have := HKa.out; omega)); have HD8 := Lib.hid ((HD7.out.below HBD.out).pbelow hb (by have := HDN.out; omega) (by have := HDN.out; omega)); have HE8 := Lib.hid ((HE7.out.below HBD.out).pbelow hb (by have := HFar.out.1; omega) (by have := HFar.out.1; omega)); clear HCF hM hb hw hlo))
                refine hK.out _ _ (HS3.out _ ((H7.out.below HBD.out).sv.st.node HM8.out HB8.out).s0 HD8.out HE8.out) (fun hHeld => ?_)
                clear hK K
                (try simp only [Act.put, List.getElem_toArray, List.getElem_cons_succ, List.getElem_cons_zero, List.setIfInBounds_toArray, List.set_cons_zero, List.set_cons_succ])
                refine wpAnyH_done (by kernel_rfl) ?_ _
                refine NoPanic.normal ?_
                have hal := fun o => ((Below.refl _ _).alloc (Nat.le_refl _) _ : Below w8.heap.size w8 (w8.alloc o))
                have HAl := Lib.hid hal
                have HGn : Hid (v.ownBlock ≠ some w8.heap.size) := Lib.hid (fun e => by have := (HC8.out.1.row.lt _ e).2; omega)
                have HFg := Lib.hid (fun c' => cforget_is w8.heap.size c' [(ai : Int)] 1 (Lib.hid rfl) (by decide) (show E.length ≤ 64 by have := HRm.out; omega) (Lib.hid (ways_ids H7.out.ok)) (w8.alloc (.cells #[.int .i64 (ai : Int)] 3 (0, 0))) (HC8.out.1.below (HAl.out _)) (Nat.le_trans HC8.out.2 (HAl.out _).size) (by simp) HGn.out (Lib.hid (rn1 w8 ai)))
                clear hal
                go_upto_region 32 with (first
                  | (go_at_call 20; (with_reducible refine (HFg.out _).mono ?_); rintro e w9 ⟨rfl, v9, hc, hb, hk, hv⟩; have H9 := Lib.hid (cv_told ai (H7.out.below HBD.out) HM8.out HB8.out (HAl.out _) hb hc hk (fun q hq j y0 y1 y2 y3 y4 hy => by rcases HW8.out with e | e; rw [e]; exact hy; rw [e]; exact updV_rest W ai tl q j e0 e1 e2 e3 e4 (fun e' => hq e'.1) hy)); have HK9 := Lib.hid ((HK8.out.below (HAl.out _)).keepB hk HO.out); have HO9 : Hid (OutC cb v9 kb) := Lib.hid ⟨HO.out.1, by rw [hv]; exact HO.out.2⟩; clear hc hb hk hv))
                have HN9 : Hid (NodesT W8 nn) := Lib.hid (by rcases HW8.out with e | e; rw [e]; exact HNT.out; rw [e]; exact HNT.out.set ai tl HKT7.out)
                obtain ⟨n9, hn9⟩ : ∃ n9 : Nat, Hid ((offE [(ai : Int)] E).length = n9) := ⟨_, Lib.hid rfl⟩
                have HL9 : Hid ((n9 : Int) ≤ s) := Lib.hid (by have := off_len [(ai : Int)] E; have := hn9.out; have := HRm.out; omega)
                have hgt : ¬ (s : Int) < (n9 : Int) := by have := HL9.out; omega
                go_wp2_with (first
                  | (go_at_call 22; (with_reducible refine (clen_is n9 hn9 _ H9.out).mono ?_); rintro e w10 ⟨rfl, rfl⟩))
                go_roundw
                case rel => exact ⟨i + 1, W8, v9, _, hits, by omega, by go_num, H9.out, HN9.out, by rw [hn9.out]; exact HL9.out, HG.out.2.1, by have := HG.out; push_cast; omega, HK9.out, HO9.out⟩
                case measure => simp [intOf]; omega
        · have h2b : (x0 == 2) = false := by simp [h2]
          have b0 := HD5.out.c0
          have c2 := H5.out.ca.c2
          have fr := H5.out.ca.fr 2
          have hkc : kb ≠ cb := HO.out.1
          have HE0 : Hid (([] : List EW).length = 0) := Lib.hid rfl
          have hs0 : ¬ (s : Int) < 0 := by omega
          clear h1 h2
          go_wp2_with (first
            | (go_at_call 21; (with_reducible refine (cclear_is cb v _ c2 fr).mono ?_); rintro e w6 ⟨rfl, hw⟩; have HW6 := Lib.hid hw; have H6 : Hid (CV w w6 S a b N cb (s : Int) (ltB nn) (fun _ => 0) W (ltB np) (fun _ => 0) W2 hits (.slice none 0 0) []) := Lib.hid (by rw [HW6.out]; exact ⟨H5.out.sv.put1 H5.out.lo cb 2 H5.out.ca.nb H5.out.n0 _, H5.out.lo, H5.out.n0, by simpa using H5.out.nN, H5.out.ca.clearedX, ways_nil⟩); have HK6 : Hid (KeyC w6 kb k0 k1 k2 k3 k4) := Lib.hid (by rw [HW6.out]; exact HK5.out.same' (by simp) (set_heap _ _ _ _ _ hkc)); clear hw c2 fr)
            | (go_at_call 22; (with_reducible refine (clen_is 0 HE0 _ H6.out).mono ?_); rintro e w10 ⟨rfl, rfl⟩))
          go_roundw
          case rel => exact ⟨i + 1, W, (.slice none 0 0), [], hits, by omega, by go_num, H6.out, HNT.out, by have := HS.out; simp, HG.out.2.1, by have := HG.out; push_cast; omega, HK6.out, ⟨HO.out.1, by simp [Value.ownBlock]⟩⟩
          case measure => simp [intOf]; omega
    · obtain rfl : i = n3 := by omega
      have hii : ¬ (i : Int) < i := by omega
      go_wp2_with fail
      go_ret
      exact ⟨rfl, HC.out.sv.bel⟩
end Go.Proofs.YtedidopkemjgeaaDoor
namespace Go.Proofs.YtedidopkemjgeaaDoor
open Go.ChangeShapes Go.WideShapes Go.ChangeAt Go.RowKit
set_option linter.unusedVariables false
set_option linter.unusedSimpArgs false
theorem errs2e {l : List (String × DataW Unit)} {w : World} (h : laidMet Tryd.prog l w) (h1 : ∃ t, ("turnkey/api.ErrShape", DataW.iface "*errors.errorString" (.ptr (.agg [.lit (.string t)]))) ∈ l) (h2 : ∃ t, ("turnkey/api.ErrRange", DataW.iface "*errors.errorString" (.ptr (.agg [.lit (.string t)]))) ∈ l) : ∃ z1 z2, ErrsAt (eV z1) (eV z2) w := by
  obtain ⟨t1, h1⟩ := h1
  obtain ⟨t2, h2⟩ := h2
  have E := errs_are (gs := [3, 0]) h (by
    intro g hg
    simp at hg
    rcases hg with rfl | rfl
    · exact ⟨_, t1, h1, gErrShape, tErrShape⟩
    · exact ⟨_, t2, h2, gErrRange, tErrRange⟩)
  obtain ⟨s1, s2, -⟩ := E.1 3 (by simp)
  obtain ⟨r1, r2, -⟩ := E.1 0 (by simp)
  exact ⟨_, _, s1, r1, s2, r2⟩
set_option maxRecDepth 100000 in
set_option maxHeartbeats 1000000 in
theorem cfinds_out (a0 ht : Int) (x : Nat) (hx64 : x < 64) (C0 : Hid (∀ w, Calls Tryd.prog 13 #[.int .i64 a0, .int .i64 64] w fun e w' => e = .returned (.int .i64 (x : Int)) ∧ w = w')) (la : Option Addr) (L c : Nat) (a3 : Option Addr) (n3 c3 : Nat) (hout : 20 < L ∨ ht < 0 ∨ 4 < ht ∨ 50 < n3) (hL : L ≤ 9223372036854775807) (hn : n3 ≤ 9223372036854775807) (z1 z2 : Addr) (w : World) (hE : ErrsAt (eV z1) (eV z2) w) :
    Calls Tryd.prog 3 #[.int .i64 a0, .int .i64 ht, .slice la L c, .slice a3 n3 c3] w fun e w' => e = .returned (.bool true) ∧ Below w.heap.size w w' := by
  have HE := Lib.hid hE
  clear hE
  have x0 : (0 : Int) ≤ x := by omega
  have x1 : (x : Int) < 64 := by omega
  have l0 : (0 : Int) ≤ L := by omega
  have l1 : (L : Int) ≤ 9223372036854775807 := by omega
  have m0 : (0 : Int) ≤ n3 := by omega
  have m1 : (n3 : Int) ≤ 9223372036854775807 := by omega
  by_cases d1 : (20 : Int) < (L : Int)
  · clear hout hL hn
    go_enter Tryd.func3, Tryd.ntmps3; go_wp2_with (first | (go_at_call 12; (with_reducible refine (cfirst_is (eV z1) (eV z2) _ HE.out).mono ?_); rintro e w1 ⟨rfl, hb1⟩; have HB1 := Lib.hid hb1; clear hb1) | (go_at_call 13; (with_reducible refine (C0.out _).mono ?_); rintro e w9 ⟨rfl, rfl⟩)); go_ret; exact ⟨rfl, HB1.out⟩
  · by_cases d2 : ht < 0
    · clear hout hL hn
      go_enter Tryd.func3, Tryd.ntmps3; go_wp2_with (first | (go_at_call 12; (with_reducible refine (cfirst_is (eV z1) (eV z2) _ HE.out).mono ?_); rintro e w1 ⟨rfl, hb1⟩; have HB1 := Lib.hid hb1; clear hb1) | (go_at_call 13; (with_reducible refine (C0.out _).mono ?_); rintro e w9 ⟨rfl, rfl⟩)); go_ret; exact ⟨rfl, HB1.out⟩
    · by_cases d3 : (4 : Int) < ht
      · clear hout hL hn
        go_enter Tryd.func3, Tryd.ntmps3; go_wp2_with (first | (go_at_call 12; (with_reducible refine (cfirst_is (eV z1) (eV z2) _ HE.out).mono ?_); rintro e w1 ⟨rfl, hb1⟩; have HB1 := Lib.hid hb1; clear hb1) | (go_at_call 13; (with_reducible refine (C0.out _).mono ?_); rintro e w9 ⟨rfl, rfl⟩)); go_ret; exact ⟨rfl, HB1.out⟩
      · have d4 : (50 : Int) < (n3 : Int) := by omega
        clear hout hL hn
        go_enter Tryd.func3, Tryd.ntmps3; go_wp2_with (first | (go_at_call 12; (with_reducible refine (cfirst_is (eV z1) (eV z2) _ HE.out).mono ?_); rintro e w1 ⟨rfl, hb1⟩; have HB1 := Lib.hid hb1; clear hb1) | (go_at_call 13; (with_reducible refine (C0.out _).mono ?_); rintro e w9 ⟨rfl, rfl⟩)); go_ret; exact ⟨rfl, HB1.out⟩
theorem rows_len {ks : List IntKind} {w : World} {a : Option Addr} {n cap : Nat} {zs : List (List Int)} (h : IsRows ks w a n cap zs) : n ≤ 9223372036854775807 := by
  rcases h with ⟨_, h0, _⟩ | ⟨x, _, hl, hm, _⟩
  · omega
  · unfold maxLen at hm; omega
theorem walk_CacheFinds (a0 : Int) (a1 : Int) (a2 : Option Addr) (len2 cap2 : Nat) (z2 : List Int) (a3 : Option Addr) (len3 cap3 : Nat) (z3 : List (List Int)) (w : World) (w0 : (Lit.int .i64 a0).wf = true) (w1 : (Lit.int .i64 a1).wf = true) (w2 : IsRow .i64 w a2 len2 cap2 z2) (w3 : IsRows [.i64, .i64, .i64, .i64, .u32] w a3 len3 cap3 z3) (hL : laidMetH Tryd.prog Rows.cacheFindsRow.laid w) :
    Calls Tryd.prog 3 #[.int .i64 a0, .int .i64 a1, .slice a2 len2 cap2, .slice a3 len3 cap3] w fun e w' => e = .returned (.bool true) ∧ Below w.heap.size w w' := by
  obtain ⟨e1, e2, hE⟩ := (errs2e hL ⟨_, by repeat (first | exact List.Mem.head _ | apply List.Mem.tail)⟩ ⟨_, by repeat (first | exact List.Mem.head _ | apply List.Mem.tail)⟩)
  obtain ⟨x, hx, C0⟩ := number_nat a0 64 64 rfl (by decide) (by decide) (fit64 w0).1 (fit64 w0).2
  obtain ⟨f, hl, hlc, hlm⟩ := li_row w2
  have hn := rows_len w3
  by_cases hin : len2 ≤ 20 ∧ 0 ≤ a1 ∧ a1 ≤ 4 ∧ len3 ≤ 50
  · exact cfinds_walk a0 a1 (x + 1) x a1.toNat (Lib.hid rfl) hx (Lib.hid (by omega)) (by omega) (Lib.hid C0) a2 len2 cap2 f (Lib.hid ⟨hin.1, hlc⟩) a3 len3 cap3 z3 hin.2.2.2 e1 e2 w hE (Lib.hid hl) (Lib.hid w3)
  · exact cfinds_out a0 a1 x hx (Lib.hid C0) a2 len2 cap2 a3 len3 cap3 (by omega) hlm hn e1 e2 w hE
end Go.Proofs.YtedidopkemjgeaaDoor
