/-
  PagePlays: what is told; the law's state.
-/
import Derived.Test.YtlefmgdfcpnifaaDoorPg4
import Derived.Test.YtlefmgdfcpnifaaDoorReads
import Derived.Test.YtlefmgdfcpnifaaDoorArL
import Derived.Deep.CutBlock
namespace Go.Proofs.YtlefmgdfcpnifaaDoor
open Go.ChangeShapes Go.WideShapes Go.ChangeAt Go.RowKit
set_option linter.unusedVariables false
theorem cell_in {w : World} {a : Addr} {v : Value} (h : w.cell? a = some v) : a.block < w.heap.size := by
  rcases Nat.lt_or_ge a.block w.heap.size with h' | h'
  · exact h'
  · simp [World.cell?, Array.getElem?_eq_none h'] at h
theorem add_more' (ad : Addr) (i j : Nat) : ad.add (i + (j + 1)) = ⟨(ad.add i).block, (ad.add i).off + (j + 1), none⟩ := by
  rw [← Go.Deep.add_add]
  rfl
/-- One thing that pages are told. -/
structure PDo (w : World) (ad : Addr) (kd id at_ x : Int) (a : Option Addr) (m c : Nat) (zs : List Int) : Prop where
  c0 : w.cell? ad = some (.int .i64 kd)
  c1 : w.cell? ⟨ad.block, ad.off + 1, none⟩ = some (.int .i64 id)
  c2 : w.cell? ⟨ad.block, ad.off + 2, none⟩ = some (.int .i64 at_)
  c3 : w.cell? ⟨ad.block, ad.off + 3, none⟩ = some (.int .u32 x)
  c4 : w.cell? ⟨ad.block, ad.off + 4, none⟩ = some (.slice a m c)
  ln : zs.length = m
  ru : RU w a zs
  mm : m ≤ 9223372036854775807
theorem PDo.below {w w' : World} {ad : Addr} {kd id at_ x : Int} {a : Option Addr} {m c : Nat} {zs : List Int} (h : PDo w ad kd id at_ x a m c zs) (hb : Below w.heap.size w w') : PDo w' ad kd id at_ x a m c zs := by
  have hl : ad.block < w.heap.size := cell_in h.c0
  exact ⟨(hb.cell (p := ad) hl).trans h.c0, (hb.cell (p := ⟨ad.block, ad.off + 1, none⟩) hl).trans h.c1, (hb.cell (p := ⟨ad.block, ad.off + 2, none⟩) hl).trans h.c2, (hb.cell (p := ⟨ad.block, ad.off + 3, none⟩) hl).trans h.c3, (hb.cell (p := ⟨ad.block, ad.off + 4, none⟩) hl).trans h.c4, h.ln, h.ru.below hb, h.mm⟩
theorem pdo_at {w : World} {a0 : Option Addr} {len cap : Nat} (h : Reads Tryd.prog w 43 [.slice a0 len cap]) (i : Nat) (hi : i < len) : ∃ y kd id at_ x a m c zs, a0 = some y ∧ PDo w (y.add (i * 5)) kd id at_ x a m c zs := by
  rcases h.slice Tryd.underlying43 with ⟨_, h0, _⟩ | ⟨y, rfl, hl, hm, hall⟩
  · omega
  · obtain ⟨cs, hcl, hat, hr⟩ := hall i (by omega)
    have e3 : Tryd.prog.cellsOf 52 = 5 := by kernel_rfl
    rw [e3] at hcl hat
    obtain ⟨v0, g0, r0⟩ := hr.cell Tryd.underlying52 0 _ rfl (by kernel_rfl) (by rw [e3]; decide)
    obtain ⟨v1, g1, r1⟩ := hr.cell Tryd.underlying52 1 _ rfl (by kernel_rfl) (by rw [e3]; decide)
    obtain ⟨v2, g2, r2⟩ := hr.cell Tryd.underlying52 2 _ rfl (by kernel_rfl) (by rw [e3]; decide)
    obtain ⟨v3, g3, r3⟩ := hr.cell Tryd.underlying52 3 _ rfl (by kernel_rfl) (by rw [e3]; decide)
    obtain ⟨v4, g4, r4⟩ := hr.cell Tryd.underlying52 4 _ rfl (by kernel_rfl) (by rw [e3]; decide)
    obtain ⟨kd, e0, _⟩ := r0.int Tryd.underlying3
    obtain ⟨id, e1, _⟩ := r1.int Tryd.underlying3
    obtain ⟨at_, e2, _⟩ := r2.int Tryd.underlying3
    obtain ⟨x, e4, _⟩ := r3.int Tryd.underlying47
    obtain ⟨a, m, c, rfl⟩ := r4.slice' Tryd.underlying50
    obtain ⟨z0, hz⟩ := r4.ints Tryd.underlying50 Tryd.underlying47 (by kernel_rfl)
    obtain ⟨zs, z1, z2, z3⟩ := ru_row hz
    simp only [List.cons.injEq, and_true] at e0 e1 e2 e4
    subst e0 e1 e2 e4
    have a0 := hat 0 _ g0
    have a1 := hat 1 _ g1
    have a2 := hat 2 _ g2
    have a3 := hat 3 _ g3
    have a4 := hat 4 _ g4
    rw [Nat.add_zero] at a0
    rw [add_more' y (i * 5) 0] at a1
    rw [add_more' y (i * 5) 1] at a2
    rw [add_more' y (i * 5) 2] at a3
    rw [add_more' y (i * 5) 3] at a4
    exact ⟨y, kd, id, at_, x, a, m, c, zs, rfl, a0, a1, a2, a3, a4, z1, z2, z3⟩
/-- .. in a block of its own. -/
structure PDk (w : World) (dk : Nat) (kd id at_ x : Int) (da : Option Addr) (m c : Nat) : Prop where
  lt : dk < w.heap.size
  c0 : w.cell? ⟨dk, 0, none⟩ = some (.int .i64 kd)
  c1 : w.cell? ⟨dk, 1, none⟩ = some (.int .i64 id)
  c2 : w.cell? ⟨dk, 2, none⟩ = some (.int .i64 at_)
  c3 : w.cell? ⟨dk, 3, none⟩ = some (.int .u32 x)
  c4 : w.cell? ⟨dk, 4, none⟩ = some (.slice da m c)
theorem PDk.same {w w' : World} {dk m c : Nat} {kd id at_ x : Int} {da : Option Addr} (h : PDk w dk kd id at_ x da m c) (hb : w'.heap[dk]? = w.heap[dk]?) (hs : w.heap.size ≤ w'.heap.size) : PDk w' dk kd id at_ x da m c :=
  ⟨Nat.lt_of_lt_of_le h.lt hs, (World.cell?_of_block (a := ⟨dk, 0, none⟩) hb).trans h.c0, (World.cell?_of_block (a := ⟨dk, 1, none⟩) hb).trans h.c1, (World.cell?_of_block (a := ⟨dk, 2, none⟩) hb).trans h.c2, (World.cell?_of_block (a := ⟨dk, 3, none⟩) hb).trans h.c3, (World.cell?_of_block (a := ⟨dk, 4, none⟩) hb).trans h.c4⟩
theorem PDk.new (w : World) (kd id at_ x : Int) (da : Option Addr) (m c : Nat) (T : TypeId) : PDk (w.alloc (.cells #[.int .i64 kd, .int .i64 id, .int .i64 at_, .int .u32 x, .slice da m c] T)) w.heap.size kd id at_ x da m c := ⟨by simp, by simp, by simp, by simp, by simp, by simp⟩
/-- The blocks from N to M are as they were. -/
structure Mid (N M : Nat) (w w' : World) : Prop where
  size : M ≤ w'.heap.size
  block : ∀ k, N ≤ k → k < M → w'.heap[k]? = w.heap[k]?
theorem Mid.refl (N : Nat) (w : World) : Mid N w.heap.size w w := ⟨Nat.le_refl _, fun _ _ _ => rfl⟩
theorem Mid.step {N M : Nat} {w X Y : World} (h : Mid N M w X) (hb : Below X.heap.size X Y) : Mid N M w Y := ⟨Nat.le_trans h.size hb.size, fun k h1 h2 => (hb.block k (Nat.lt_of_lt_of_le h2 h.size)).trans (h.block k h1 h2)⟩
theorem Mid.made {N M B G : Nat} {w X Y : World} (h : Mid N M w X) (hb : PBelow X Y B G) (hB : B < N) (hG : G < N) : Mid N M w Y := ⟨Nat.le_trans h.size hb.2.2.2.1, fun k h1 h2 => (hb.2.2.2.2 k (Nat.lt_of_lt_of_le h2 h.size) (by omega) (by omega)).trans (h.block k h1 h2)⟩
theorem Mid.grown {N M g : Nat} {w X Y : World} (h : Mid N M w X) (hg : X.grownBy Y (some g)) (hN : g < N) : Mid N M w Y := ⟨Nat.le_trans h.size hg.size, fun k h1 h2 => (hg.block k (Nat.lt_of_lt_of_le h2 h.size) (fun e => by injection e with e; omega)).trans (h.block k h1 h2)⟩
theorem PDk.mid {N : Nat} {w w' : World} {dk m c : Nat} {kd id at_ x : Int} {da : Option Addr} (h : PDk w dk kd id at_ x da m c) (hN : N ≤ dk) (hm : Mid N w.heap.size w w') : PDk w' dk kd id at_ x da m c := h.same (hm.block dk hN h.lt) hm.size
theorem row_same {w w' : World} {B e s n : Nat} {v : Value} {xs : List Value} (h : w.ownsRow B e s v n xs) (hb : ∀ g, v.ownBlock = some g → w'.heap[g]? = w.heap[g]?) : w'.ownsRow B e s v n xs := by
  refine ⟨h.1, ?_⟩
  rcases h.2 with hn | ⟨g, cap, cur, rfl, hB, hg, rest⟩
  · exact .inl hn
  · exact .inr ⟨g, cap, cur, rfl, hB, (hb g rfl).trans hg, rest⟩
theorem row_mid {w w' : World} {N B e s n : Nat} {v : Value} {xs : List Value} (h : w.ownsRow B e s v n xs) (hN : N ≤ B) (hm : Mid N w.heap.size w w') : w'.ownsRow B e s v n xs :=
  row_same h fun g hg => hm.block g (Nat.le_trans hN (h.lt g hg).1) (h.lt g hg).2
theorem PcAt.mid {N base P p B G n c q : Nat} {w w' : World} {th : Nat → Bool} {vr : Nat → Int} {W : Nat → Nat → Int} (h : PcAt w base P p B G n c q th vr W) (hN : N ≤ base) (hm : Mid N w.heap.size w w') : PcAt w' base P p B G n c q th vr W := by
  have hP := hm.block P (Nat.le_trans hN h.pb) h.pl
  have hp := hm.block p (Nat.le_trans hN h.ar.pb) h.ar.pl
  exact ⟨Nat.lt_of_lt_of_le h.pl hm.size, h.pb, (World.cell?_of_block (a := ⟨P, 0, none⟩) hP).trans h.f0, (World.cell?_of_block (a := ⟨P, 1, none⟩) hP).trans h.f1,
    ⟨Nat.lt_of_lt_of_le h.ar.pl hm.size, h.ar.pb, (World.cell?_of_block (a := ⟨p, 0, none⟩) hp).trans h.ar.fld, row_mid h.ar.own hN hm, h.ar.ne, h.ar.le⟩, row_mid h.row hN hm⟩
/-- Words above N. -/
structure RN2 (w : World) (N : Nat) (a : Option Addr) (xs : List Int) : Prop where
  ru : RU w a xs
  lo : ∀ ad, a = some ad → N ≤ ad.block
theorem RN2.mid {N : Nat} {w w' : World} {a : Option Addr} {xs : List Int} (h : RN2 w N a xs) (hm : Mid N w.heap.size w w') : RU w' a xs := fun j hj => by
  obtain ⟨ad, h1, h2, h3⟩ := h.ru j hj
  exact ⟨ad, h1, Nat.lt_of_lt_of_le h2 hm.size, (World.cell?_of_block (a := ad.add j) (by rw [add_block']; exact hm.block _ (h.lo ad h1) h2)).trans h3⟩
/-- A page's words, if it is there. -/
def wlist (n : Nat) (th : Nat → Bool) (W : Nat → Nat → Int) (id : Int) : List Int := if thereB n th id = true then (List.range 32).map (fun j => W id.toNat j) else []
theorem wlist_len (n : Nat) (th : Nat → Bool) (W : Nat → Nat → Int) (id : Int) : (wlist n th W id).length ≤ 32 := by
  unfold wlist
  split <;> simp
theorem there_nat {n : Nat} {th : Nat → Bool} {id : Int} (h : thereB n th id = true) : ∃ k : Nat, id = k ∧ k < n ∧ th k = true := by
  unfold thereB at h
  simp only [Bool.and_eq_true, decide_eq_true_eq] at h
  exact ⟨id.toNat, by omega, by omega, h.2⟩
theorem pwords_any {base P p B G n c : Nat} {th : Nat → Bool} {vr : Nat → Int} {W : Nat → Nat → Int} (id : Int) (xs : List Int) (hx : Hid (wlist n th W id = xs)) (m : Nat) (hm : Hid (xs.length = m)) (w : World) (h : PgAt w base P p B G n c th vr W) :
    Calls Tryd.prog 30 #[.pointer (some ⟨P, 0, none⟩), .int .i64 id] w fun e w' => ∃ a c', e = .returned (.slice a m c') ∧ RN2 w' w.heap.size a xs ∧ Below w.heap.size w w' := by
  by_cases ht : thereB n th id = true
  · obtain ⟨k, rfl, hk, hkt⟩ := there_nat ht
    have hl : xs = (List.range 32).map (fun j => W k j) := by rw [← hx.out]; unfold wlist; rw [if_pos ht]; simp
    have hm2 : m = 32 := by rw [← hm.out, hl]; simp
    subst hm2
    refine (pwords_is k hk (Lib.hid hkt) w h).mono fun e w' ⟨g', c', he, hr, hb⟩ => ⟨some ⟨g', 0, none⟩, c', he, ⟨?_, fun ad e => by injection e with e; rw [← e]; exact (hr.lt g' rfl).1⟩, hb⟩
    rw [hl]
    exact own_ru hr (by simp)
  · have ht' : thereB n th id = false := by simpa using ht
    have hl : xs = [] := by rw [← hx.out]; unfold wlist; rw [if_neg ht]
    have hm2 : m = 0 := by rw [← hm.out, hl]; rfl
    subst hm2
    refine (pwords_no id (Lib.hid ht') w h).mono fun e w' ⟨he, hw⟩ => ⟨none, 0, he, ⟨by rw [hl]; exact fun j hj => by simp at hj, fun ad e => by cases e⟩, by rw [← hw]; exact Below.refl _ _⟩
theorem pcwords_any {base P p B G n c q : Nat} {th : Nat → Bool} {vr : Nat → Int} {W : Nat → Nat → Int} (id : Int) (xs : List Int) (hx : Hid (wlist n th W id = xs)) (m : Nat) (hm : Hid (xs.length = m)) (w : World) (h : PcAt w base P p B G n c q th vr W) :
    Calls Tryd.prog 30 #[.pointer (some ⟨P, 0, none⟩), .int .i64 id] w fun e w' => ∃ a c', e = .returned (.slice a m c') ∧ RN2 w' w.heap.size a xs ∧ Below w.heap.size w w' := by
  by_cases ht : thereB n th id = true
  · obtain ⟨k, rfl, hk, hkt⟩ := there_nat ht
    have hl : xs = (List.range 32).map (fun j => W k j) := by rw [← hx.out]; unfold wlist; rw [if_pos ht]; simp
    have hm2 : m = 32 := by rw [← hm.out, hl]; simp
    subst hm2
    refine (pcwords_is k hk (Lib.hid hkt) w h).mono fun e w' ⟨g', c', he, hr, hb⟩ => ⟨some ⟨g', 0, none⟩, c', he, ⟨?_, fun ad e => by injection e with e; rw [← e]; exact (hr.lt g' rfl).1⟩, hb⟩
    rw [hl]
    exact own_ru hr (by simp)
  · have ht' : thereB n th id = false := by simpa using ht
    have hl : xs = [] := by rw [← hx.out]; unfold wlist; rw [if_neg ht]
    have hm2 : m = 0 := by rw [← hm.out, hl]; rfl
    subst hm2
    refine (pcwords_no id (Lib.hid ht') w h).mono fun e w' ⟨he, hw⟩ => ⟨none, 0, he, ⟨by rw [hl]; exact fun j hj => by simp at hj, fun ad e => by cases e⟩, by rw [← hw]; exact Below.refl _ _⟩
/-- The word there, if any. -/
def wordB (n : Nat) (th : Nat → Bool) (id at_ : Int) : Bool := thereB n th id && decide (0 ≤ at_ ∧ at_ < 32)
theorem word_nat {n : Nat} {th : Nat → Bool} {id at_ : Int} (h : wordB n th id at_ = true) : ∃ k j : Nat, id = k ∧ at_ = j ∧ k < n ∧ j < 32 ∧ th k = true := by
  unfold wordB at h
  simp only [Bool.and_eq_true, decide_eq_true_eq] at h
  obtain ⟨k, h1, h2, h3⟩ := there_nat h.1
  exact ⟨k, at_.toNat, h1, by omega, h2, by omega, h3⟩
theorem pread_any {base P p B G n c : Nat} {th : Nat → Bool} {vr : Nat → Int} {W : Nat → Nat → Int} (id at_ : Int) (t : Bool) (ht : Hid (wordB n th id at_ = t)) (x : Int) (hx : Hid ((if t = true then W id.toNat at_.toNat else 0) = x)) (w : World) (h : PgAt w base P p B G n c th vr W) :
    Calls Tryd.prog 33 #[.pointer (some ⟨P, 0, none⟩), .int .i64 id, .int .i64 at_] w fun e w' => e = .returned (.tuple #[.int .u32 x, .bool t]) ∧ w = w' := by
  cases t
  · have h1 := pread_no id at_ ht w h
    have : x = 0 := by rw [← hx.out]; rfl
    rw [this]
    exact h1
  · obtain ⟨k, j, rfl, rfl, hk, hj, hkt⟩ := word_nat ht.out
    exact pread_is k j hk hj (Lib.hid hkt) x (Lib.hid (by rw [← hx.out]; simp)) w h
/-- The law's state: pages; the row of those that ought to be there; what they ought to hold. -/
structure PZ (W0 w : World) (base P p B G c L H : Nat) (th : Nat → Bool) (vr : Nat → Int) (W : Nat → Nat → Int) (tl : Nat → Bool) (Wh : Nat → Nat → Int) : Prop where
  pv : PV W0 w base P p B G 6 c th vr W
  lv : FR w W0.heap.size L 6 tl
  hv : w.ownsRow W0.heap.size 49 192 (.slice (some ⟨H, 0, none⟩) 1 1) 1 (flat Wh 6)
  lo : P < L ∧ p < L ∧ B < L ∧ G < L ∧ L < H
section
variable {W0 w w' : World} {base P p B G c L H : Nat} {th th' tl : Nat → Bool} {vr vr' : Nat → Int} {W W' Wh : Nat → Nat → Int}
theorem PZ.step (h : PZ W0 w base P p B G c L H th vr W tl Wh) (hb : Below w.heap.size w w') : PZ W0 w' base P p B G c L H th vr W tl Wh := ⟨h.pv.step hb, h.lv.below hb, own_below h.hv hb, h.lo⟩
theorem PZ.made (h : PZ W0 w base P p B G c L H th vr W tl Wh) (hP : PgAt w' base P p B G 6 c th' vr' W') (hb : PBelow w w' B G) : PZ W0 w' base P p B G c L H th' vr' W' tl Wh := by
  have h1 := (FR.lt h.lv).2
  have h2 := (h.hv.lt H rfl).2
  have h3 := h.lo
  refine ⟨h.pv.made hP hb, row_same h.lv fun g hg => ?_, row_same h.hv fun g hg => ?_, h.lo⟩
  · simp [Value.ownBlock] at hg
    exact hb.2.2.2.2 g (by omega) (by omega) (by omega)
  · simp [Value.ownBlock] at hg
    exact hb.2.2.2.2 g (by omega) (by omega) (by omega)
theorem PZ.hat (h : PZ W0 w base P p B G c L H th vr W tl Wh) (i j : Nat) (hi : i < 6) (hj : j < 32) : w.cell? ⟨H, i * 32 + j, none⟩ = some (.int .u32 (Wh i j)) ∧ w.frozen? ⟨H, i * 32 + j, none⟩ = false := by
  refine ⟨?_, h.hv.frozenAt _⟩
  rw [h.hv.cellAt (i * 32 + j) (by omega), flat_at Wh 6 i j hi hj]
theorem PV.far {n F : Nat} (h : PV W0 w base P p B G n c th vr W) (hg : w.grownBy w' (some F)) (h0 : W0.heap.size ≤ F) (h1 : F ≠ P) (h2 : F ≠ p) (h3 : F ≠ B) (h4 : F ≠ G) : PV W0 w' base P p B G n c th vr W :=
  ⟨h.bel.grown hg h.bel.size (fun k hk => by injection hk with e; omega), h.wb, h.pg.kept hg h1 h2 h3 h4⟩
theorem PZ.live (h : PZ W0 w base P p B G c L H th vr W tl Wh) (k : Nat) (hk : k < 6) (x : Bool) : PZ W0 (w.setCell ⟨L, k, none⟩ (.bool x)) base P p B G c L H th vr W (upd tl k x) Wh ∧ w.grownBy (w.setCell ⟨L, k, none⟩ (.bool x)) (some L) := by
  have hs := FR.set h.lv k hk x
  have h3 := h.lo
  have h1 := FR.lt h.lv
  exact ⟨⟨h.pv.far hs.2 h1.1 (by omega) (by omega) (by omega) (by omega), hs.1, h.hv.kept hs.2 (.inr (by simp [Value.ownBlock]; omega)), h.lo⟩, hs.2⟩
theorem PZ.havs (h : PZ W0 w base P p B G c L H th vr W tl Wh) (i : Nat) (hi : i < 6) (xs : List Int) (hx : xs.length ≤ 32) : PZ W0 (w.setCells H (i * 32) (xs.map (Value.int .u32))) base P p B G c L H th vr W tl (updW Wh i xs) ∧ w.grownBy (w.setCells H (i * 32) (xs.map (Value.int .u32))) (some H) := by
  have hs := own_setCells (xs.map (Value.int .u32)) (i * 32) _ _ h.hv
  rw [flat_over Wh 6 i xs hi hx] at hs
  have h3 := h.lo
  have h1 := h.hv.lt H rfl
  exact ⟨⟨h.pv.far hs.2 h1.1 (by omega) (by omega) (by omega) (by omega), row_same h.lv (fun g hg => hs.2.block g ((World.ownsRow.lt h.lv g hg).2) (fun e => by simp [Value.ownBlock] at hg; injection e with e; omega)), hs.1, h.lo⟩, hs.2⟩
theorem PZ.hav (h : PZ W0 w base P p B G c L H th vr W tl Wh) (i j : Nat) (hi : i < 6) (hj : j < 32) (x : Int) : PZ W0 (w.setCell ⟨H, i * 32 + j, none⟩ (.int .u32 x)) base P p B G c L H th vr W tl (updA Wh i j x) ∧ w.grownBy (w.setCell ⟨H, i * 32 + j, none⟩ (.int .u32 x)) (some H) := by
  have hs := h.hv.stored (i * 32 + j) (.int .u32 x)
  rw [flat_set Wh 6 i j x hi hj] at hs
  have h3 := h.lo
  have h1 := h.hv.lt H rfl
  exact ⟨⟨h.pv.far hs.2 h1.1 (by omega) (by omega) (by omega) (by omega), row_same h.lv (fun g hg => hs.2.block g ((World.ownsRow.lt h.lv g hg).2) (fun e => by simp [Value.ownBlock] at hg; injection e with e; omega)), hs.1, h.lo⟩, hs.2⟩
end
end Go.Proofs.YtlefmgdfcpnifaaDoor
