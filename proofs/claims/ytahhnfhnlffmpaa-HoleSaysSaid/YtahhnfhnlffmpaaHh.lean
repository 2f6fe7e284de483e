/-
  HoleRings: the walk.
-/
import Derived.Test.YtahhnfhnlffmpaaHg
import Derived.Deep.CutBlock
namespace Go.Proofs.Ytahhnfhnlffmpaa
open Go.ChangeShapes Go.WideShapes Go.ChangeAt Go.RowKit Go.Maps
set_option linter.unusedVariables false
theorem hinfoF : (Try.prog.info? 27).map (fun i => (i.zero, i.size, i.bytes)) = some (some (.agg #[.int .i64 0, .int .i64 0, .bool false, .slice none 0 0]), 4, 48) := by kernel_rfl
theorem four_at {l : List Value} {a b c d : Value} (hl : l = [a, b, c, d]) (w : World) (T : TypeId) (g : Nat) (hg : g = w.heap.size) : ∀ j u, l[j]? = some u → (w.alloc (.cells #[a, b, c, d] T (0, 0))).cell? (Addr.add ⟨g, 0, none⟩ j) = some u := by
  subst hl hg
  intro j u hj
  rw [Addr.add_lit, Nat.zero_add]
  simpa using hj
theorem four_one (x0 x1 : Int) (b : Bool) (p : Option Addr) (n c : Nat) : ∀ u ∈ [Value.int .i64 x0, .int .i64 x1, .bool b, .slice p n c], u.oneCell' = true := by
  intro u hu
  simp at hu
  rcases hu with rfl | rfl | rfl | rfl <;> rfl
/-- Keys that were laid in a block. -/
theorem row_lit (w : World) (base : Nat) (cs : Array Value) (n : Nat) (xs : List Value) (hx : cs.toList = xs) (hs : cs.size = n * 5) (hb : base ≤ w.heap.size) (hm : n ≤ maxLen) : (w.alloc (.cells cs 24 (0, 0))).ownsRow base 24 5 (.slice (some ⟨w.heap.size, 0, none⟩) n n) n xs := by
  subst hx
  refine ⟨by rw [Array.length_toList, hs], .inr ⟨w.heap.size, n, cs, rfl, hb, heap_alloc_new _ _, Nat.le_refl _, hm, hs, ?_⟩⟩
  rw [List.take_of_length_le (by rw [Array.length_toList, hs]; exact Nat.le_refl _)]
def updP {α : Type} (f : Nat → α) (a : Nat) (x : α) : Nat → α := fun k => if k = a then x else f k
theorem updP_same {α : Type} (f : Nat → α) (a : Nat) (x : α) : updP f a x a = x := by simp [updP]
theorem updP_other {α : Type} (f : Nat → α) (a k : Nat) (x : α) (h : k ≠ a) : updP f a x k = f k := by simp [updP, h]
theorem FlAt.cell {w : World} {base g n c : Nat} {D : FD} (h : FlAt w base (.slice (some ⟨g, 0, none⟩) n c) D) (hn : D.n = n) (i j : Nat) (hi : i < n) (hj : j < 4) : w.cell? ⟨g, i * 4 + j, none⟩ = some (facCell D i j) ∧ w.frozen? ⟨g, i * 4 + j, none⟩ = false := by
  subst hn
  refine ⟨?_, World.ownsRow.frozenAt h.row _⟩
  rw [World.ownsRow.cellAt h.row (i * 4 + j) (by omega), facRow_at _ _ _ _ hi hj]
theorem RD.ct0 (m n at_ : Nat) (pa : Nat → Option Addr) (cp : Nat → Nat) (i : Nat) : (RD 0 m n at_ pa cp).ct i = 2 := by
  show (if i = at_ then 2 + xct 0 else 2) = 2
  split <;> rfl
theorem RD.row2 (c m n at_ : Nat) (pa : Nat → Option Addr) (cp : Nat → Nat) (i : Nat) : keyRow ((RD c m n at_ pa cp).key i) (List.range 2) = [.int .i64 1, .int .i64 0, .int .i64 0, .int .i64 0, .int .u32 0, .int .i64 9, .int .i64 (nx n i : Nat), .int .i64 3, .int .i64 0, .int .u32 0] := by
  simp [List.range_succ, keyRow, kcells, RD, rkey]
theorem rings_push {wr wA w9 : World} {base k n at_ : Nat} {v v' : Value} {pa : Nat → Option Addr} {cp : Nat → Nat} (h0 : FlAt wr base v (RD 0 k n at_ pa cp)) (s : Nat) (hs : nx n k = s) (hwA : wA = wr.alloc (.cells #[.int .i64 1, .int .i64 0, .int .i64 0, .int .i64 0, .int .u32 0, .int .i64 9, .int .i64 (s : Int), .int .i64 3, .int .i64 0, .int .u32 0] 24 (0, 0)))
    (hbase : base ≤ wr.heap.size) (hrow : w9.ownsRow base 27 4 v' (k + 1) (facRow (RD 0 k n at_ pa cp) k ++ [.int .i64 (k : Int), .int .i64 3, .bool true, .slice (some ⟨wr.heap.size, 0, none⟩) 2 2])) (hg : wA.grownBy w9 v.ownBlock) (hloc : v'.ownBlock = v.ownBlock ∨ ∃ z, v'.ownBlock = some z ∧ wA.heap.size ≤ z) :
    FlAt w9 base v' (RD 0 (k + 1) n at_ (updP pa k (some ⟨wr.heap.size, 0, none⟩)) (updP cp k 2)) := by
  subst hs
  have hbw : Below wr.heap.size wr wA := by rw [hwA]; exact (Below.refl _ _).alloc (Nat.le_refl _) _
  refine FlAt.push (D := RD 0 k n at_ pa cp) (D' := RD 0 (k + 1) n at_ (updP pa k (some ⟨wr.heap.size, 0, none⟩)) (updP cp k 2)) h0 hbw rfl (fun i hi => ⟨rfl, rfl, rfl, updP_other _ _ _ _ (Nat.ne_of_lt hi), rfl, updP_other _ _ _ _ (Nat.ne_of_lt hi), rfl⟩) ?_ ?_ ?_ hg hloc
  · have e1 : (RD 0 (k + 1) n at_ (updP pa k (some ⟨wr.heap.size, 0, none⟩)) (updP cp k 2)).part k = .slice (some ⟨wr.heap.size, 0, none⟩) 2 2 := by
      unfold FD.part
      rw [RD.ct0]
      simp [RD, updP]
    have e2 := RD.ct0 (k + 1) n at_ (updP pa k (some ⟨wr.heap.size, 0, none⟩)) (updP cp k 2) k
    show wA.ownsRow base 24 5 ((RD 0 (k + 1) n at_ (updP pa k (some ⟨wr.heap.size, 0, none⟩)) (updP cp k 2)).part k) ((RD 0 (k + 1) n at_ (updP pa k (some ⟨wr.heap.size, 0, none⟩)) (updP cp k 2)).ct k) (keyRow ((RD 0 (k + 1) n at_ (updP pa k (some ⟨wr.heap.size, 0, none⟩)) (updP cp k 2)).key k) (List.range ((RD 0 (k + 1) n at_ (updP pa k (some ⟨wr.heap.size, 0, none⟩)) (updP cp k 2)).ct k)))
    rw [e2, e1, RD.row2, hwA]
    exact row_lit wr base _ 2 _ rfl rfl hbase (by unfold maxLen; omega)
  · intro g hg
    have e1 : (RD 0 (k + 1) n at_ (updP pa k (some ⟨wr.heap.size, 0, none⟩)) (updP cp k 2)).part k = .slice (some ⟨wr.heap.size, 0, none⟩) 2 2 := by
      unfold FD.part
      rw [RD.ct0]
      simp [RD, updP]
    have hg' : ((RD 0 (k + 1) n at_ (updP pa k (some ⟨wr.heap.size, 0, none⟩)) (updP cp k 2)).part k).ownBlock = some g := hg
    rw [e1] at hg'
    simp [Value.ownBlock] at hg'
    omega
  · have e2 := RD.ct0 (k + 1) n at_ (updP pa k (some ⟨wr.heap.size, 0, none⟩)) (updP cp k 2) k
    have e3 : updP pa k (some ⟨wr.heap.size, 0, none⟩) k = some ⟨wr.heap.size, 0, none⟩ := updP_same _ _ _
    have e4 : updP cp k 2 k = 2 := updP_same _ _ _
    show w9.ownsRow base 27 4 v' (k + 1) (facRow (RD 0 k n at_ pa cp) k ++ [.int .i64 (k : Int), .int .i64 3, .bool true, .slice (updP pa k (some ⟨wr.heap.size, 0, none⟩) k) ((RD 0 (k + 1) n at_ (updP pa k (some ⟨wr.heap.size, 0, none⟩)) (updP cp k 2)).ct k) (updP cp k 2 k)])
    rw [e2, e3, e4]
    exact hrow
theorem FlAt.cellK {w w' : World} {base g n c : Nat} {D : FD} (h : FlAt w base (.slice (some ⟨g, 0, none⟩) n c) D) (hn : D.n = n) (a i j : Nat) (ha : a < n) (hi : i < n) (hj : j < 4) (hg : w.grownBy w' (D.part a).ownBlock) : w'.cell? ⟨g, i * 4 + j, none⟩ = some (facCell D i j) ∧ w'.frozen? ⟨g, i * 4 + j, none⟩ = false := by
  subst hn
  have hr : w'.ownsRow base 27 4 (.slice (some ⟨g, 0, none⟩) D.n c) D.n (facRow D D.n) := h.row.kept hg (.inr fun e => h.apart a ha g e.symm rfl)
  refine ⟨?_, World.ownsRow.frozenAt hr _⟩
  rw [World.ownsRow.cellAt hr (i * 4 + j) (by omega), facRow_at _ _ _ _ hi hj]
def row2 (n i : Nat) : List Value := [.int .i64 1, .int .i64 0, .int .i64 0, .int .i64 0, .int .u32 0, .int .i64 9, .int .i64 (nx n i : Nat), .int .i64 3, .int .i64 0, .int .u32 0]
def xrow (c : Nat) : List Value := if c = 1 then [.int .i64 13, .int .i64 0, .int .i64 0, .int .i64 0, .int .u32 0] else [.int .i64 3, .int .i64 0, .int .i64 0, .int .i64 5, .int .u32 0, .int .i64 12, .int .i64 0, .int .i64 0, .int .i64 0, .int .u32 0]
theorem rings_part {w : World} {base k n at_ : Nat} {v : Value} {pa : Nat → Option Addr} {cp : Nat → Nat} (h : FlAt w base v (RD 0 k n at_ pa cp)) (i : Nat) (hi : i < k) : w.ownsRow base 24 5 (.slice (pa i) 2 (cp i)) 2 (row2 n i) := by
  have h1 := h.part i hi
  unfold FD.part at h1
  rw [RD.ct0, RD.row2] at h1
  exact h1
theorem rings_more {wr w9 : World} {base g cc k n at_ : Nat} {pa : Nat → Option Addr} {cp : Nat → Nat} (c : Nat) (hc : c = 1 ∨ c = 4) (h : FlAt wr base (.slice (some ⟨g, 0, none⟩) k cc) (RD 0 k n at_ pa cp)) (hat : at_ < k) {va : Option Addr} {vc m : Nat} (hm : m = 2 + xct c)
    (hnew : w9.ownsRow base 24 5 (.slice va m vc) m (row2 n at_ ++ xrow c)) (hg : wr.grownBy w9 (Value.slice (pa at_) 2 (cp at_)).ownBlock) (hloc : (Value.slice va m vc).ownBlock = (Value.slice (pa at_) 2 (cp at_)).ownBlock ∨ ∃ z, (Value.slice va m vc).ownBlock = some z ∧ wr.heap.size ≤ z) :
    FlAt (w9.setCell ⟨g, at_ * 4 + 3, none⟩ (.slice va m vc)) base (.slice (some ⟨g, 0, none⟩) k cc) (RD c k n at_ (updP pa at_ va) (updP cp at_ vc)) ∧ w9.grownBy (w9.setCell ⟨g, at_ * 4 + 3, none⟩ (.slice va m vc)) (some g) := by
  subst hm
  have hct : (RD c k n at_ (updP pa at_ va) (updP cp at_ vc)).ct at_ = 2 + xct c := by show (if at_ = at_ then 2 + xct c else 2) = _; rw [if_pos rfl]
  have hpart : (RD c k n at_ (updP pa at_ va) (updP cp at_ vc)).part at_ = .slice va (2 + xct c) vc := by
    unfold FD.part
    rw [hct]
    simp [RD, updP]
  have hp0 : (RD 0 k n at_ pa cp).part at_ = .slice (pa at_) 2 (cp at_) := by unfold FD.part; rw [RD.ct0]; rfl
  have hrow : keyRow ((RD c k n at_ (updP pa at_ va) (updP cp at_ vc)).key at_) (List.range (2 + xct c)) = row2 n at_ ++ xrow c := by
    rcases hc with rfl | rfl
    · simp [row2, xrow, xct, List.range_succ, keyRow, kcells, RD, rkey, xkey]
    · simp [row2, xrow, xct, List.range_succ, keyRow, kcells, RD, rkey, xkey]
  have hp := FlAt.parts (D := RD 0 k n at_ pa cp) (D' := RD c k n at_ (updP pa at_ va) (updP cp at_ vc)) (w' := w9) h at_ hat rfl (by rw [hpart, hct, hrow]; exact hnew) (by rw [hp0]; exact hg) (by rw [hpart, hp0]; exact hloc)
    (fun a b ha hb hab => by
      have hne : c ≠ 3 := by omega
      have hn2 : c ≠ 2 := by omega
      by_cases hb3 : b = 3
      · have : a ≠ at_ := fun h => hab ⟨h, hb3⟩
        simp [facCell, RD, hb3, this, updP]
      · have : b = 0 ∨ b = 1 ∨ b = 2 := by omega
        rcases this with rfl | rfl | rfl <;> simp [facCell, RD, hne, hn2])
    (fun a ha hne => ⟨by simp [FD.part, RD, updP, hne], by simp [RD, hne], by funext j q; simp [RD, hne]⟩)
  rw [hpart] at hp
  exact hp
theorem ten_at {l : List Value} {a b c d e a2 b2 c2 d2 e2 : Value} (hl : l = [a, b, c, d, e, a2, b2, c2, d2, e2]) (w : World) (T : TypeId) : ∀ j u, l[j]? = some u → (w.alloc (.cells #[a, b, c, d, e, a2, b2, c2, d2, e2] T (0, 0))).cell? (Addr.add ⟨w.heap.size, 0, none⟩ j) = some u := by
  subst hl
  intro j u hj
  rw [Addr.add_lit, Nat.zero_add]
  simpa using hj
theorem xrow_one (c : Nat) : ∀ u ∈ xrow c, u.oneCell' = true := by
  intro u hu
  unfold xrow at hu
  split at hu
  · simp at hu
    rcases hu with rfl | rfl | rfl <;> rfl
  · simp at hu
    rcases hu with rfl | rfl | rfl | rfl | rfl | rfl | rfl <;> rfl
set_option maxRecDepth 100000 in
set_option maxHeartbeats 8000000 in
theorem rings_any (a0 a1 a2 : Int) (g1 : -9223372036854775808 ≤ a0) (g2 : a0 ≤ 9223372036854775807) (g3 : -9223372036854775808 ≤ a1) (g4 : a1 ≤ 9223372036854775807) (g5 : -9223372036854775808 ≤ a2) (g6 : a2 ≤ 9223372036854775807) (w : World) :
    Calls Try.prog 4 #[.int .i64 a0, .int .i64 a1, .int .i64 a2] w fun e w' => e = .returned (.bool true) ∧ Below w.heap.size w w' := by
  obtain ⟨R, hR, CR⟩ := hnumber_nat a0 12 12 rfl (by decide) (by decide) g1 g2
  obtain ⟨n, hn⟩ : ∃ n : Nat, (R : Int) + 1 = (n : Int) := ⟨R + 1, by omega⟩
  have hn1 : 1 ≤ n := by omega
  have hn2 : n ≤ 12 := by omega
  obtain ⟨at_, hat, CA⟩ := hnumber_nat a1 (n : Int) n rfl (by omega) (by omega) g3 g4
  obtain ⟨c, hc, CC⟩ := hnumber_nat a2 5 5 rfl (by decide) (by decide) g5 g6
  have CR' := Lib.hid CR
  have CA' := Lib.hid CA
  have CC' := Lib.hid CC
  obtain ⟨jf, hj1, hj2, hj3, hj4⟩ := info_parts hinfoF
  obtain ⟨ik, hi1, hi2, hi3, hi4⟩ := info_parts hinfoK
  have HIF := Lib.hid (⟨hj1, hj2, hj3, hj4⟩ : Try.prog.info? 27 = some jf ∧ jf.zero = some (.agg #[.int .i64 0, .int .i64 0, .bool false, .slice none 0 0]) ∧ jf.size = 4 ∧ jf.bytes = 48)
  have HIK := Lib.hid (⟨hi1, hi2, hi3, hi4⟩ : Try.prog.info? 24 = some ik ∧ ik.zero = some (.agg #[.int .i64 0, .int .i64 0, .int .i64 0, .int .i64 0, .int .u32 0]) ∧ ik.size = 5 ∧ ik.bytes = 40)
  clear CR CA CC g1 g2 g3 g4 g5 g6 hi1 hi2 hi3 hi4 hj1 hj2 hj3 hj4
  go_enter Try.func4, Try.ntmps4
  go_wp2_with (first
    | (go_at_call 6; (with_reducible refine (hfirst_is _).mono ?_); rintro e w1 ⟨rfl, hb1⟩; have HB1 := Lib.hid hb1; clear hb1)
    | (go_at_call 16; (with_reducible refine (CR'.out _).mono ?_); rintro e w2 ⟨rfl, rfl⟩)
    | (go_at_call 16; (with_reducible refine (CA'.out _).mono ?_); rintro e w2 ⟨rfl, rfl⟩))
  clear hn
  go_loopw [9, 8] (fun i v wr => ∃ (k : Nat) (pa : Nat → Option Addr) (cp : Nat → Nat), k ≤ n ∧ i = .int .i64 k ∧ FlAt wr w.heap.size v (RD 0 k n at_ pa cp) ∧ Below w.heap.size w wr) (fun i _ _ => n - (intOf i).toNat)
  case atStart => exact ⟨0, fun _ => none, fun _ => 0, by omega, rfl, FlAt.start _ _ _ rfl, HB1.out⟩
  case round =>
    obtain ⟨k, pa, cp, hk, rfl, hfl, hb⟩ := hrel
    have HFl := Lib.hid hfl
    have HB := Lib.hid hb
    clear hfl hb
    by_cases hlt : k < n
    · have hmod : ((k : Int) + 1).tmod (n : Int) = ((nx n k : Nat) : Int) := by rw [← nx_mod hlt]; exact (Int.ofNat_tmod (k + 1) n).symm
      have hnx := nx_lt hlt
      obtain ⟨s, hs⟩ : ∃ s, nx n k = s := ⟨_, rfl⟩
      rw [hs] at hmod hnx
      have HS := Lib.hid hs
      have H6 : Hid (k + 1 ≤ maxLen ∧ (k + 1) * 48 ≤ 140737488355328 ∧ ∀ o o', w.heap.size ≤ ((wr.alloc o).alloc o').heap.size) := Lib.hid ⟨by unfold maxLen; omega, by omega, fun o o' => by have := HB.out.size; simp; omega⟩
      have hgA : Hid (∀ o, wr.heap.size + 1 = (wr.alloc o).heap.size) := Lib.hid (fun o => by simp)
      have k0 : (0 : Int) ≤ k := by omega
      clear hs
      go_wp2_with (first
        | (at_builtin; refine wpList_append_own_at _ rfl _ _ 28 rfl w.heap.size 27 jf (.agg #[.int .i64 0, .int .i64 0, .bool false, .slice none 0 0]) 4 48 Try.underlying28 HIF.out.1 HIF.out.2.1 HIF.out.2.2.1 HIF.out.2.2.2 rfl (by decide) u8 k _ rfl ((HFl.out.row.alloc _).alloc _) ⟨wr.heap.size + 1, 0, none⟩ 1 1 [.int .i64 k, .int .i64 3, .bool true, .slice (some ⟨wr.heap.size, 0, none⟩) 2 2] rfl rfl (four_at rfl _ _ _ (hgA.out _)) (four_one _ _ _ _ _ _) H6.out.1 H6.out.2.1 (H6.out.2.2 _ _) ?_; intro v' w9 hown hgrow hnil hloc; have HOW := Lib.hid hown; have HGR := Lib.hid ((World.grownBy_alloc _ _ _).trans hgrow); have HLOC := Lib.hid hloc; clear hown hgrow hnil hloc))
      have HF9 := Lib.hid (rings_push HFl.out s HS.out rfl HB.out.size HOW.out HGR.out (by
        rcases HLOC.out with h | h
        · exact .inl h
        · exact .inr ⟨_, h, by simp⟩))
      have HB9 : Hid (Below w.heap.size w w9) := Lib.hid ((HB.out.alloc HB.out.size _).grown HGR.out (by have := HB.out.size; simp; omega) (fun g hg => (HFl.out.row.lt g hg).1))
      go_roundw
      case rel => exact ⟨k + 1, _, _, by omega, by go_num, HF9.out, HB9.out⟩
      case measure => simp [intOf]; omega
    · obtain rfl : k = n := by omega
      have hdd : decide (k < k) = false := by simp
      obtain ⟨g, cc, hu8, hbg⟩ : ∃ g cc, u8 = .slice (some ⟨g, 0, none⟩) k cc ∧ w.heap.size ≤ g := by
        rcases HFl.out.row.2 with ⟨e, e2⟩ | ⟨g, cc, cur, e, hB, rest⟩
        · exact absurd e2 (by show ¬ k = 0; omega)
        · exact ⟨g, cc, e, hB⟩
      subst hu8
      have hl8 : g < wr.heap.size := (HFl.out.row.lt g rfl).2
      have HG8 := Lib.hid (⟨hbg, hl8⟩ : w.heap.size ≤ g ∧ g < wr.heap.size)
      clear hbg hl8
      go_upto_block 2 with (first
        | (go_at_call 16; (with_reducible refine (CC'.out _).mono ?_); rintro e w2 ⟨rfl, rfl⟩))
      clear hdd
      go_cut [10] (fun v wx => ∃ (bad : Bool) (D : FD) (sn : Nat → Nat → Bool), v = .bool bad ∧ FlAt wx w.heap.size (.slice (some ⟨g, 0, none⟩) D.n cc) D ∧ RingOk D k sn bad ∧ Below w.heap.size w wx)
      case first =>
        have j0 : (0 : Int) ≤ at_ := by omega
        have j1 : (at_ : Int) < k := by omega
        by_cases c1 : c = 1
        · have e1 : ((c : Int) == 1) = true := by simp; omega
          have e2 : ((c : Int) == 2) = false := by simp; omega
          have e3 : ((c : Int) == 3) = false := by simp; omega
          have e4 : ((c : Int) == 4) = false := by simp; omega
          have hp := rings_part HFl.out at_ hat
          obtain ⟨p0, Hp0⟩ : ∃ p0, pa at_ = p0 := ⟨_, rfl⟩
          obtain ⟨c0, Hc0⟩ : ∃ c0, cp at_ = c0 := ⟨_, rfl⟩
          obtain ⟨hzz, hz1⟩ := HFl.out.cell rfl at_ 3 hat (by decide)
          have hz0 : wr.cell? ⟨g, at_ * 4 + 3, none⟩ = some (.slice p0 2 c0) := by rw [hzz, ← Hp0, ← Hc0]; simp [facCell, RD, xct]
          clear hzz
          have HPart : Hid ((RD 0 k k at_ pa cp).part at_ = .slice p0 2 c0) := Lib.hid (by unfold FD.part; rw [RD.ct0, ← Hp0, ← Hc0]; rfl)
          rw [Hp0, Hc0] at hp
          have HP := Lib.hid hp
          have HPC := Lib.hid (⟨Hp0, Hc0⟩ : pa at_ = p0 ∧ cp at_ = c0)
          have H6 : Hid (2 + 1 ≤ maxLen ∧ (2 + 1) * 40 ≤ 140737488355328 ∧ ∀ o, w.heap.size ≤ (wr.alloc o).heap.size) := Lib.hid ⟨by unfold maxLen; omega, by omega, fun o => by have := HB.out.size; simp; omega⟩
          clear c1 hp Hp0 Hc0
          go_wp2_with (first
            | (at_builtin; refine wpList_append_own_at _ rfl _ _ 25 rfl w.heap.size 24 ik (.agg #[.int .i64 0, .int .i64 0, .int .i64 0, .int .i64 0, .int .u32 0]) 5 40 Try.underlying25 HIK.out.1 HIK.out.2.1 HIK.out.2.2.1 HIK.out.2.2.2 rfl (by decide) (Value.slice p0 2 c0) 2 _ rfl (HP.out.alloc _) ⟨wr.heap.size, 0, none⟩ 1 1 (xrow 1) rfl rfl (five_at rfl _ _) (xrow_one 1) H6.out.1 H6.out.2.1 (H6.out.2.2 _) ?_; intro v' w9 hown hgrow hnil hloc; obtain ⟨va, vc, rfl⟩ := own_shape hown; have HOW := Lib.hid hown; have HGR := Lib.hid ((World.grownBy_alloc _ _ _).trans hgrow); have HLOC := Lib.hid hloc; obtain ⟨y0, y1⟩ := HFl.out.cellK rfl at_ at_ 3 hat hat (by decide) (by have h := HGR.out; rw [HPart.out]; exact h); clear hown hgrow hnil hloc))
          go_meet
          have hm := rings_more 1 (.inl rfl) HFl.out hat (va := va) (vc := vc) (m := 3) rfl HOW.out (by rw [HPC.out.1, HPC.out.2]; exact HGR.out) (by
            rw [HPC.out.1, HPC.out.2]
            rcases HLOC.out with h | h
            · exact .inl h
            · exact .inr ⟨_, h, by simp⟩)
          exact ⟨true, RD 1 k k at_ (updP pa at_ va) (updP cp at_ vc), snR 1, rfl, hm.1, RD.bad (.inl rfl) (by omega) hn2 hat, ((HB.out.grown HGR.out HB.out.size (fun g' hg' => (HP.out.lt g' hg').1)).grown hm.2 (Nat.le_trans HB.out.size HGR.out.size) (fun g' hg' => by injection hg' with hg'; have := HG8.out; omega))⟩
        · skip
          by_cases c1 : c = 4
          · have e1 : ((c : Int) == 1) = false := by simp; omega
            have e2 : ((c : Int) == 2) = false := by simp; omega
            have e3 : ((c : Int) == 3) = false := by simp; omega
            have e4 : ((c : Int) == 4) = true := by simp; omega
            have hp := rings_part HFl.out at_ hat
            obtain ⟨p0, Hp0⟩ : ∃ p0, pa at_ = p0 := ⟨_, rfl⟩
            obtain ⟨c0, Hc0⟩ : ∃ c0, cp at_ = c0 := ⟨_, rfl⟩
            obtain ⟨hzz, hz1⟩ := HFl.out.cell rfl at_ 3 hat (by decide)
            have hz0 : wr.cell? ⟨g, at_ * 4 + 3, none⟩ = some (.slice p0 2 c0) := by rw [hzz, ← Hp0, ← Hc0]; simp [facCell, RD, xct]
            clear hzz
            have HPart : Hid ((RD 0 k k at_ pa cp).part at_ = .slice p0 2 c0) := Lib.hid (by unfold FD.part; rw [RD.ct0, ← Hp0, ← Hc0]; rfl)
            rw [Hp0, Hc0] at hp
            have HP := Lib.hid hp
            have HPC := Lib.hid (⟨Hp0, Hc0⟩ : pa at_ = p0 ∧ cp at_ = c0)
            have H6 : Hid (2 + 2 ≤ maxLen ∧ (2 + 2) * 40 ≤ 140737488355328 ∧ ∀ o, w.heap.size ≤ (wr.alloc o).heap.size) := Lib.hid ⟨by unfold maxLen; omega, by omega, fun o => by have := HB.out.size; simp; omega⟩
            clear c1 hp Hp0 Hc0
            go_wp2_with (first
              | (at_builtin; refine wpList_append_own_at _ rfl _ _ 25 rfl w.heap.size 24 ik (.agg #[.int .i64 0, .int .i64 0, .int .i64 0, .int .i64 0, .int .u32 0]) 5 40 Try.underlying25 HIK.out.1 HIK.out.2.1 HIK.out.2.2.1 HIK.out.2.2.2 rfl (by decide) (Value.slice p0 2 c0) 2 _ rfl (HP.out.alloc _) ⟨wr.heap.size, 0, none⟩ 2 2 (xrow 4) rfl rfl (ten_at rfl _ _) (xrow_one 4) H6.out.1 H6.out.2.1 (H6.out.2.2 _) ?_; intro v' w9 hown hgrow hnil hloc; obtain ⟨va, vc, rfl⟩ := own_shape hown; have HOW := Lib.hid hown; have HGR := Lib.hid ((World.grownBy_alloc _ _ _).trans hgrow); have HLOC := Lib.hid hloc; obtain ⟨y0, y1⟩ := HFl.out.cellK rfl at_ at_ 3 hat hat (by decide) (by have h := HGR.out; rw [HPart.out]; exact h); clear hown hgrow hnil hloc))
            go_meet
            have hm := rings_more 4 (.inr rfl) HFl.out hat (va := va) (vc := vc) (m := 4) rfl HOW.out (by rw [HPC.out.1, HPC.out.2]; exact HGR.out) (by
              rw [HPC.out.1, HPC.out.2]
              rcases HLOC.out with h | h
              · exact .inl h
              · exact .inr ⟨_, h, by simp⟩)
            exact ⟨false, RD 4 k k at_ (updP pa at_ va) (updP cp at_ vc), snR 4, rfl, hm.1, RD.good (.inr rfl) (by omega) hn2 hat, ((HB.out.grown HGR.out HB.out.size (fun g' hg' => (HP.out.lt g' hg').1)).grown hm.2 (Nat.le_trans HB.out.size HGR.out.size) (fun g' hg' => by injection hg' with hg'; have := HG8.out; omega))⟩
          · skip
            by_cases c2 : c = 2
            · have e1 : ((c : Int) == 1) = false := by simp; omega
              have e2 : ((c : Int) == 2) = true := by simp; omega
              have hst := FlAt.store (D := RD 0 k k at_ pa cp) (D' := RD 2 k k at_ pa cp) HFl.out at_ 2 hat (by decide) (.bool false) rfl (by simp [facCell, RD]) (fun a b ha hb hab => by
                by_cases hb2 : b = 2
                · have : a ≠ at_ := fun h => hab ⟨h, hb2⟩
                  simp [facCell, RD, hb2, this]
                · simp [facCell, RD, hb2, xct]) (fun a ha => ⟨by simp [FD.part, RD, xct], by simp [RD, xct], by funext j q; simp [RD, xkey]⟩)
              have HST := Lib.hid hst
              obtain ⟨hzz, hz1⟩ := HFl.out.cell rfl at_ 2 hat (by decide)
              have hz0 : wr.cell? ⟨g, at_ * 4 + 2, none⟩ = some (.bool true) := by rw [hzz]; simp [facCell, RD]
              clear hzz
              clear c2 hst
              go_wp2_with fail
              go_meet
              exact ⟨true, _, _, rfl, HST.out.1, RD.bad (.inr (.inl rfl)) (by omega) hn2 hat, HB.out.grown HST.out.2 HB.out.size (fun g' hg' => by injection hg' with hg'; have := HG8.out; omega)⟩
            · skip
              by_cases c3 : c = 3
              · have e1 : ((c : Int) == 1) = false := by simp; omega
                have e2 : ((c : Int) == 2) = false := by simp; omega
                have e3 : ((c : Int) == 3) = true := by simp; omega
                have hst := FlAt.store (D := RD 0 k k at_ pa cp) (D' := RD 3 k k at_ pa cp) HFl.out at_ 1 hat (by decide) (.int .i64 4) rfl (by simp [facCell, RD]) (fun a b ha hb hab => by
                  by_cases hb2 : b = 1
                  · have : a ≠ at_ := fun h => hab ⟨h, hb2⟩
                    simp [facCell, RD, hb2, this]
                  · simp [facCell, RD, hb2, xct]) (fun a ha => ⟨by simp [FD.part, RD, xct], by simp [RD, xct], by funext j q; simp [RD, xkey]⟩)
                have HST := Lib.hid hst
                obtain ⟨hzz, hz1⟩ := HFl.out.cell rfl at_ 1 hat (by decide)
                have hz0 : wr.cell? ⟨g, at_ * 4 + 1, none⟩ = some (.int .i64 3) := by rw [hzz]; simp [facCell, RD]
                clear hzz
                clear c3 hst
                go_wp2_with fail
                go_meet
                exact ⟨true, _, _, rfl, HST.out.1, RD.bad (.inr (.inr rfl)) (by omega) hn2 hat, HB.out.grown HST.out.2 HB.out.size (fun g' hg' => by injection hg' with hg'; have := HG8.out; omega)⟩
              · skip
                obtain rfl : c = 0 := by omega
                go_wp2_with fail
                go_meet
                exact ⟨false, _, _, rfl, HFl.out, RD.good (.inl rfl) (by omega) hn2 hat, HB.out⟩
      case rest =>
        obtain ⟨bad, D, sn, rfl, hfl, hok, hb⟩ := hcut
        have HF2 := Lib.hid hfl
        have HOk := Lib.hid hok
        have HB2 := Lib.hid hb
        have HDn : Hid (k = D.n) := Lib.hid hok.nn.symm
        clear hfl hok hb HFl HB
        go_wp2_with fail
        go_loopw [11] (fun i wr => ∃ q : Nat, q ≤ k ∧ i = .int .i64 q ∧ FlAt wr w.heap.size (.slice (some ⟨g, 0, none⟩) D.n cc) D ∧ Below w.heap.size w wr) (fun i _ => k - (intOf i).toNat)
        case atStart => exact ⟨0, by omega, rfl, HF2.out, HB2.out⟩
        case round =>
          obtain ⟨q, hq, rfl, hfl, hb⟩ := hrel
          have HF3 := Lib.hid hfl
          have HB3 := Lib.hid hb
          clear hfl hb
          by_cases hlt : q < k
          · have hqn : q < D.n := by rw [← HDn.out]; exact hlt
            obtain ⟨a', c', hv, hfac⟩ := HF3.out.fac HOk.out.wf HOk.out.few HOk.out.few2
            simp only [Value.slice.injEq] at hv
            obtain ⟨rfl, -, rfl⟩ := hv
            have HFac := Lib.hid hfac
            have c0 := (HF3.out.cell rfl q 0 hqn (by decide)).1
            have c1 := (HF3.out.cell rfl q 1 hqn (by decide)).1
            have c2 := (HF3.out.cell rfl q 2 hqn (by decide)).1
            have c3 := (HF3.out.cell rfl q 3 hqn (by decide)).1
            simp only [facCell] at c0 c1 c2 c3
            simp only [Nat.add_zero, if_true, if_false, Nat.one_ne_zero, Nat.reduceEqDiff] at c0 c1 c2 c3
            have hK : KysAt wr (D.pa q) (D.ct q) (D.key q) := hfac.part q hqn
            have HK := Lib.hid hK
            have HSn2 : Hid (∀ j, j < D.ct q → Sens (D.key q j 0) (D.key q j 1) (D.key q j 2) (D.key q j 3) (D.key q j 4) (sn q j)) := Lib.hid (fun j hj => HOk.out.snk q j hqn hj)
            have HCl : Hid (decide ((pickTo (fun j => holeB D (fun _ => bad) (sn q j) (D.key q j 0) (D.key q j 1) (D.key q j 2)) (D.ct q)).length = 0) = !bad) := Lib.hid (HOk.out.cl q hqn)
            have q0 : (0 : Int) ≤ q := by omega
            have q1 : (q : Int) < k := by omega
            have h64 := HOk.out.few2 q
            clear hfac hK
            have HC2 : ∀ W, FacAt W (some ⟨g, 0, none⟩) D → KysAt W (D.pa q) (D.ct q) (D.key q) → Calls Try.prog 15 #[.agg #[.int .i64 (D.id q), .int .i64 (D.ver q), .bool (D.sl q), .slice (D.pa q) (D.ct q) (D.cp q)], .slice (some ⟨g, 0, none⟩) k cc] W fun e w' => e = .returned (.bool (!bad)) ∧ Below W.heap.size W w' := fun W h1 h2 =>
              hclosed_is (some ⟨g, 0, none⟩) D k cc HDn sn (fun _ => bad) (Lib.hid HOk.out.ris) (D.id q) (D.ver q) (D.sl q) (D.pa q) (D.ct q) (D.cp q) (D.key q) (sn q) h64 HSn2 (fun j => holeB D (fun _ => bad) (sn q j) (D.key q j 0) (D.key q j 1) (D.key q j 2)) (Lib.hid fun j hj => rfl) (!bad) HCl W h1 h2 (Lib.hid HOk.out.snk)
            have HC := Lib.hid HC2
            clear HC2 h64
            generalize D.id q = xi at c0 HC
            generalize D.ver q = xv at c1 HC
            generalize D.sl q = xs at c2 HC
            generalize hpa : D.pa q = xp at c3 HC HK
            generalize hct : D.ct q = xc at c3 HC HK
            generalize hcp : D.cp q = xd at c3 HC
            clear hpa hct hcp HSn2 HCl
            cases bad
            all_goals
              go_wp2_with (first
                | (go_at_call 15; (with_reducible refine (HC.out _ HFac.out HK.out).mono ?_); rintro e w5 ⟨rfl, hb⟩; have HB5 := Lib.hid hb; clear hb))
              go_roundw
              case rel => exact ⟨q + 1, by omega, by go_num, HF3.out.below HB5.out, HB3.out.trans (HB5.out.mono HB3.out.size)⟩
              case measure => simp [intOf]; omega
          · obtain rfl : q = k := by omega
            have hqq : decide (q < q) = false := by simp
            go_wp2_with fail
            go_ret
            exact ⟨rfl, HB3.out⟩
theorem walk_HoleRings (a0 : Int) (a1 : Int) (a2 : Int) (w : World) (w0 : (Lit.int .i64 a0).wf = true) (w1 : (Lit.int .i64 a1).wf = true) (w2 : (Lit.int .i64 a2).wf = true) :
    Calls Try.prog 4 #[.int .i64 a0, .int .i64 a1, .int .i64 a2] w fun e w' => e = .returned (.bool true) ∧ Below w.heap.size w w' :=
  rings_any a0 a1 a2 (hi64_fit w0).1 (hi64_fit w0).2 (hi64_fit w1).1 (hi64_fit w1).2 (hi64_fit w2).1 (hi64_fit w2).2 w
end Go.Proofs.Ytahhnfhnlffmpaa
