/-
  HoleChains: the walk.
-/
import Derived.Test.YtahhnfhnlffmpaaHc
import Derived.Test.YtahhnfhnlffmpaaHh
namespace Go.Proofs.Ytahhnfhnlffmpaa
open Go.ChangeShapes Go.WideShapes Go.ChangeAt Go.RowKit Go.Maps
set_option linter.unusedVariables false
/-- A factory that is being made: a box of its own, its parts in a row of theirs. -/
structure BoxAt (w0 w : World) (base fb k : Nat) (s : Bool) (va : Option Addr) (m vc : Nat) (xs : List Value) : Prop where
  box : w.ownsRow base 27 4 (.slice (some ⟨fb, 0, none⟩) 1 1) 1 [.int .i64 k, .int .i64 0, .bool s, .slice va m vc]
  row : w.ownsRow base 24 5 (.slice va m vc) m xs
  low : ∀ g, (Value.slice va m vc).ownBlock = some g → w0.heap.size ≤ g ∧ g ≠ fb
  lf : w0.heap.size ≤ fb
  bel : Below w0.heap.size w0 w
theorem BoxAt.cell {w0 w : World} {base fb k m vc : Nat} {s : Bool} {va : Option Addr} {xs : List Value} (h : BoxAt w0 w base fb k s va m vc xs) : (w.cell? ⟨fb, 0, none⟩ = some (.int .i64 k) ∧ w.cell? ⟨fb, 1, none⟩ = some (.int .i64 0) ∧ w.cell? ⟨fb, 2, none⟩ = some (.bool s) ∧ w.cell? ⟨fb, 3, none⟩ = some (.slice va m vc)) ∧ w.frozen? ⟨fb, 2, none⟩ = false ∧ w.frozen? ⟨fb, 3, none⟩ = false := by
  refine ⟨⟨?_, ?_, ?_, ?_⟩, World.ownsRow.frozenAt h.box 2, World.ownsRow.frozenAt h.box 3⟩
  · simpa using World.ownsRow.cellAt h.box 0 (by decide)
  · simpa using World.ownsRow.cellAt h.box 1 (by decide)
  · simpa using World.ownsRow.cellAt h.box 2 (by decide)
  · simpa using World.ownsRow.cellAt h.box 3 (by decide)
theorem BoxAt.cellK {w0 w w9 : World} {base fb k m vc : Nat} {s : Bool} {va : Option Addr} {xs : List Value} (h : BoxAt w0 w base fb k s va m vc xs) (hg : w.grownBy w9 (Value.slice va m vc).ownBlock) : w9.cell? ⟨fb, 3, none⟩ = some (.slice va m vc) ∧ w9.frozen? ⟨fb, 3, none⟩ = false := by
  have hbox : w9.ownsRow base 27 4 (.slice (some ⟨fb, 0, none⟩) 1 1) 1 [.int .i64 k, .int .i64 0, .bool s, .slice va m vc] := h.box.kept hg (by
    cases hv : (Value.slice va m vc).ownBlock with
    | none => exact .inr (by simp [Value.ownBlock])
    | some g => exact .inr (by rw [show (Value.slice (some ⟨fb, 0, none⟩) 1 1).ownBlock = some fb from rfl]; intro e; injection e with e; exact (h.low g hv).2 e.symm))
  exact ⟨by simpa using World.ownsRow.cellAt hbox 3 (by decide), World.ownsRow.frozenAt hbox 3⟩
theorem BoxAt.start {w : World} {base k : Nat} {xs : List Value} (hb : base ≤ w.heap.size) (cs : Array Value) (hx : cs.toList = xs) (hs : cs.size = 2 * 5) :
    BoxAt w ((w.alloc (.cells cs 24 (0, 0))).alloc (.cells #[.int .i64 k, .int .i64 0, .bool true, .slice (some ⟨w.heap.size, 0, none⟩) 2 2] 27 (0, 0))) base (w.heap.size + 1) k true (some ⟨w.heap.size, 0, none⟩) 2 2 xs := by
  have h1 := row_lit w base cs 2 xs hx hs hb (by unfold maxLen; omega)
  have hsz : (w.alloc (.cells cs 24 (0, 0))).heap.size = w.heap.size + 1 := by simp
  refine ⟨⟨rfl, .inr ⟨w.heap.size + 1, 1, _, rfl, by omega, by rw [← hsz]; exact heap_alloc_new _ _, by omega, by unfold maxLen; omega, rfl, rfl⟩⟩, h1.alloc _, ?_, by omega, ?_⟩
  · intro g hg
    simp [Value.ownBlock] at hg
    omega
  · exact ((Below.refl _ _).alloc (Nat.le_refl _) _).alloc (by simp) _
theorem BoxAt.more {w0 w w9 : World} {base fb k m vc m' vc' : Nat} {s : Bool} {va va' : Option Addr} {xs xs' : List Value} (h : BoxAt w0 w base fb k s va m vc xs) (hnew : w9.ownsRow base 24 5 (.slice va' m' vc') m' xs') (hg : w.grownBy w9 (Value.slice va m vc).ownBlock) (hloc : (Value.slice va' m' vc').ownBlock = (Value.slice va m vc).ownBlock ∨ ∃ z, (Value.slice va' m' vc').ownBlock = some z ∧ w.heap.size ≤ z) :
    BoxAt w0 (w9.setCell ⟨fb, 3, none⟩ (.slice va' m' vc')) base fb k s va' m' vc' xs' := by
  have hfl : fb < w.heap.size := (h.box.lt fb rfl).2
  have hbox : w9.ownsRow base 27 4 (.slice (some ⟨fb, 0, none⟩) 1 1) 1 [.int .i64 k, .int .i64 0, .bool s, .slice va m vc] := h.box.kept hg (by
    cases hv : (Value.slice va m vc).ownBlock with
    | none => exact .inr (by simp [Value.ownBlock])
    | some g => exact .inr (by rw [show (Value.slice (some ⟨fb, 0, none⟩) 1 1).ownBlock = some fb from rfl]; intro e; injection e with e; exact (h.low g hv).2 e.symm))
  have hs := World.ownsRow.stored hbox 3 (.slice va' m' vc')
  have hlo : ∀ g, (Value.slice va' m' vc').ownBlock = some g → w0.heap.size ≤ g ∧ g ≠ fb := by
    intro g hgg
    rcases hloc with e | ⟨z, e, hz⟩
    · rw [e] at hgg; exact h.low g hgg
    · rw [e] at hgg
      injection hgg with hgg
      have := h.bel.size
      omega
  refine ⟨by simpa using hs.1, hnew.kept hs.2 ?_, hlo, h.lf, ?_⟩
  · cases hv : (Value.slice va' m' vc').ownBlock with
    | none => exact .inl rfl
    | some g => exact .inr fun e => (hlo g hv).2 (by injection e)
  · have h1 := h.bel.grown hg h.bel.size (fun g hgg => (h.low g hgg).1)
    exact h1.grown hs.2 h1.size (fun g hgg => by injection hgg with hgg; have := h.lf; omega)
theorem BoxAt.seal {w0 w : World} {base fb k m vc : Nat} {s : Bool} {va : Option Addr} {xs : List Value} (h : BoxAt w0 w base fb k s va m vc xs) (s' : Bool) :
    BoxAt w0 (w.setCell ⟨fb, 2, none⟩ (.bool s')) base fb k s' va m vc xs := by
  have hs := World.ownsRow.stored h.box 2 (.bool s')
  refine ⟨by simpa using hs.1, h.row.kept hs.2 ?_, h.low, h.lf, h.bel.grown hs.2 h.bel.size (fun g hgg => by injection hgg with hgg; have := h.lf; omega)⟩
  cases hv : (Value.slice va m vc).ownBlock with
  | none => exact .inl rfl
  | some g => exact .inr fun e => (h.low g hv).2 (by injection e)
def crow (n k c : Nat) : List Value := [.int .i64 0, .int .i64 0, .int .i64 0, .int .i64 0, .int .u32 0, .int .i64 14, .int .i64 0, .int .i64 0, .int .i64 0, .int .u32 0] ++ (if k + 1 < n then [.int .i64 9, .int .i64 ((k : Int) + 1), .int .i64 0, .int .i64 0, .int .u32 0] else []) ++ (if c = k then [.int .i64 8, .int .i64 0, .int .i64 0, .int .i64 0, .int .u32 0] else [])
theorem crow_is (b : Bool) (m n at_ k : Nat) (pa : Nat → Option Addr) (cp : Nat → Nat) : keyRow ((CD b m n at_ pa cp).key k) (List.range ((CD b m n at_ pa cp).ct k)) = crow n k at_ := by
  show keyRow (ckey n k) (List.range (cct n at_ k)) = _
  unfold cct crow
  by_cases h1 : k + 1 < n
  · by_cases h2 : k = at_
    · subst h2
      simp [h1, List.range_succ, keyRow, kcells, ckey]
    · simp [h1, h2, Ne.symm h2, List.range_succ, keyRow, kcells, ckey]
  · by_cases h2 : k = at_
    · subst h2
      simp [h1, List.range_succ, keyRow, kcells, ckey]
    · simp [h1, h2, Ne.symm h2, List.range_succ, keyRow, kcells, ckey]
theorem chains_push {wr w2 wA w9 : World} {base k n at_ fb m vc : Nat} {b s : Bool} {v v' : Value} {va : Option Addr} {pa : Nat → Option Addr} {cp : Nat → Nat} {xs : List Value} (h0 : FlAt wr base v (CD b k n at_ pa cp)) (hB : BoxAt wr w2 base fb k s va m vc xs) (hwA : Below w2.heap.size w2 wA) (hs : s = !(b && decide (k = at_))) (hm : m = cct n at_ k) (hx : xs = crow n k at_)
    (hrow : w9.ownsRow base 27 4 v' (k + 1) (facRow (CD b k n at_ pa cp) k ++ [.int .i64 k, .int .i64 0, .bool s, .slice va m vc])) (hg : wA.grownBy w9 v.ownBlock) (hloc : v'.ownBlock = v.ownBlock ∨ ∃ z, v'.ownBlock = some z ∧ wA.heap.size ≤ z) :
    FlAt w9 base v' (CD b (k + 1) n at_ (updP pa k va) (updP cp k vc)) := by
  subst hs hm hx
  have e3 : updP pa k va k = va := updP_same _ _ _
  have e4 : updP cp k vc k = vc := updP_same _ _ _
  have e1 : (CD b (k + 1) n at_ (updP pa k va) (updP cp k vc)).part k = .slice va (cct n at_ k) vc := by
    show Value.slice (updP pa k va k) (cct n at_ k) (updP cp k vc k) = _
    rw [e3, e4]
  refine FlAt.push (D := CD b k n at_ pa cp) (D' := CD b (k + 1) n at_ (updP pa k va) (updP cp k vc)) h0 (hB.bel.trans (hwA.mono hB.bel.size)) rfl (fun i hi => ⟨rfl, rfl, rfl, updP_other _ _ _ _ (Nat.ne_of_lt hi), rfl, updP_other _ _ _ _ (Nat.ne_of_lt hi), rfl⟩) ?_ ?_ ?_ hg hloc
  · show wA.ownsRow base 24 5 ((CD b (k + 1) n at_ (updP pa k va) (updP cp k vc)).part k) ((CD b (k + 1) n at_ (updP pa k va) (updP cp k vc)).ct k) (keyRow ((CD b (k + 1) n at_ (updP pa k va) (updP cp k vc)).key k) (List.range ((CD b (k + 1) n at_ (updP pa k va) (updP cp k vc)).ct k)))
    rw [crow_is, e1]
    exact rowbelow hB.row hwA
  · intro g hg
    have hg' : ((CD b (k + 1) n at_ (updP pa k va) (updP cp k vc)).part k).ownBlock = some g := hg
    rw [e1] at hg'
    exact (hB.low g hg').1
  · show w9.ownsRow base 27 4 v' (k + 1) (facRow (CD b k n at_ pa cp) k ++ [.int .i64 (k : Int), .int .i64 0, .bool (!(b && decide (k = at_))), .slice (updP pa k va k) (cct n at_ k) (updP cp k vc k)])
    rw [e3, e4]
    exact hrow
set_option maxRecDepth 100000 in
set_option maxHeartbeats 8000000 in
theorem chains_any (a0 a1 : Int) (b : Bool) (g1 : -9223372036854775808 ≤ a0) (g2 : a0 ≤ 9223372036854775807) (g3 : -9223372036854775808 ≤ a1) (g4 : a1 ≤ 9223372036854775807) (w : World) :
    Calls Try.prog 5 #[.int .i64 a0, .int .i64 a1, .bool b] w fun e w' => e = .returned (.bool true) ∧ Below w.heap.size w w' := by
  obtain ⟨R, hR, CR⟩ := hnumber_nat a0 12 12 rfl (by decide) (by decide) g1 g2
  obtain ⟨n, hn⟩ : ∃ n : Nat, (R : Int) + 1 = (n : Int) := ⟨R + 1, by omega⟩
  have hn1 : 1 ≤ n := by omega
  have hn2 : n ≤ 12 := by omega
  obtain ⟨at_, hat, CA⟩ := hnumber_nat a1 (n : Int) n rfl (by omega) (by omega) g3 g4
  have CR' := Lib.hid CR
  have CA' := Lib.hid CA
  obtain ⟨jf, hj1, hj2, hj3, hj4⟩ := info_parts hinfoF
  obtain ⟨ik, hi1, hi2, hi3, hi4⟩ := info_parts hinfoK
  have HIF := Lib.hid (⟨hj1, hj2, hj3, hj4⟩ : Try.prog.info? 27 = some jf ∧ jf.zero = some (.agg #[.int .i64 0, .int .i64 0, .bool false, .slice none 0 0]) ∧ jf.size = 4 ∧ jf.bytes = 48)
  have HIK := Lib.hid (⟨hi1, hi2, hi3, hi4⟩ : Try.prog.info? 24 = some ik ∧ ik.zero = some (.agg #[.int .i64 0, .int .i64 0, .int .i64 0, .int .i64 0, .int .u32 0]) ∧ ik.size = 5 ∧ ik.bytes = 40)
  clear CR CA g1 g2 g3 g4 hi1 hi2 hi3 hi4 hj1 hj2 hj3 hj4
  go_enter Try.func5, Try.ntmps5
  go_wp2_with (first
    | (go_at_call 6; (with_reducible refine (hfirst_is _).mono ?_); rintro e w1 ⟨rfl, hb1⟩; have HB1 := Lib.hid hb1; clear hb1)
    | (go_at_call 16; (with_reducible refine (CR'.out _).mono ?_); rintro e w2 ⟨rfl, rfl⟩)
    | (go_at_call 16; (with_reducible refine (CA'.out _).mono ?_); rintro e w2 ⟨rfl, rfl⟩))
  clear hn
  go_loopw [9, 8] (fun i v wr => ∃ (k : Nat) (pa : Nat → Option Addr) (cp : Nat → Nat), k ≤ n ∧ i = .int .i64 k ∧ FlAt wr w.heap.size v (CD b k n at_ pa cp) ∧ Below w.heap.size w wr) (fun i _ _ => n - (intOf i).toNat)
  case atStart => exact ⟨0, fun _ => none, fun _ => 0, by omega, rfl, FlAt.start _ _ _ rfl, HB1.out⟩
  case round =>
    obtain ⟨k, pa, cp, hk, rfl, hfl, hb⟩ := hrel
    have HFl := Lib.hid hfl
    have HB := Lib.hid hb
    clear hfl hb
    by_cases hlt : k < n
    · have k0 : (0 : Int) ≤ k := by omega
      have k12 : (k : Int) < 12 := by omega
      go_upto_region 11 with fail
      have hbx := BoxAt.start (k := k) (HB.out.size) #[.int .i64 0, .int .i64 0, .int .i64 0, .int .i64 0, .int .u32 0, .int .i64 14, .int .i64 0, .int .i64 0, .int .i64 0, .int .u32 0] rfl rfl
      obtain ⟨w2, hw2⟩ : ∃ w2, w2 = (wr.alloc (.cells #[.int .i64 0, .int .i64 0, .int .i64 0, .int .i64 0, .int .u32 0, .int .i64 14, .int .i64 0, .int .i64 0, .int .i64 0, .int .u32 0] 24 (0, 0))).alloc (.cells #[.int .i64 k, .int .i64 0, .bool true, .slice (some ⟨wr.heap.size, 0, none⟩) 2 2] 27 (0, 0)) := ⟨_, rfl⟩
      obtain ⟨fb, hfb⟩ : ∃ fb, fb = wr.heap.size + 1 := ⟨_, rfl⟩
      obtain ⟨va, hva⟩ : ∃ va : Option Addr, va = some ⟨wr.heap.size, 0, none⟩ := ⟨_, rfl⟩
      rw [← hw2, ← hfb, ← hva] at hbx
      rw [← hw2, ← hfb]
      have HBx := Lib.hid hbx
      clear hbx hw2 hfb hva
      go_upto_if 36 with fail
      go_cut [] (fun wx => ∃ va m vc, m = 2 + (if k + 1 < n then 1 else 0) ∧ BoxAt wr wx w.heap.size fb k true va m vc (crow n k n))
      case first =>
        have hcn : ¬ n = k := by omega
        obtain ⟨⟨hz0, hz1, hz2, hz3⟩, hz4, hz5⟩ := HBx.out.cell
        by_cases h1 : k + 1 < n
        · have hd1 : decide ((k : Int) + 1 < n) = true := decide_eq_true (by omega)
          have H6 : Hid (2 + 1 ≤ maxLen ∧ (2 + 1) * 40 ≤ 140737488355328 ∧ ∀ o, w.heap.size ≤ (w2.alloc o).heap.size) := Lib.hid ⟨by unfold maxLen; omega, by omega, fun o => by have := HB.out.size; have := HBx.out.bel.size; simp; omega⟩
          go_wp2_with (first
            | (at_builtin; refine wpList_append_own_at _ rfl _ _ 25 rfl w.heap.size 24 ik (.agg #[.int .i64 0, .int .i64 0, .int .i64 0, .int .i64 0, .int .u32 0]) 5 40 Try.underlying25 HIK.out.1 HIK.out.2.1 HIK.out.2.2.1 HIK.out.2.2.2 rfl (by decide) (Value.slice va 2 2) 2 _ rfl (HBx.out.row.alloc _) ⟨w2.heap.size, 0, none⟩ 1 1 [.int .i64 9, .int .i64 ((k : Int) + 1), .int .i64 0, .int .i64 0, .int .u32 0] rfl rfl (five_at rfl _ _) (five_one _ _ _ _ _) H6.out.1 H6.out.2.1 (H6.out.2.2 _) ?_; intro v' w9 hown hgrow hnil hloc; obtain ⟨va', vc', rfl⟩ := own_shape hown; have HOW := Lib.hid hown; have HGR := Lib.hid ((World.grownBy_alloc _ _ _).trans hgrow); have HLOC := Lib.hid hloc; obtain ⟨y0, y1⟩ := HBx.out.cellK HGR.out; clear hown hgrow hnil hloc))
          go_meet
          have e3 : 2 + (if k + 1 < n then 1 else 0) = 3 := by rw [if_pos h1]
          have hm := HBx.out.more (xs' := crow n k n) (by simpa [crow, h1, hcn] using HOW.out) HGR.out (by
            rcases HLOC.out with h | h
            · exact .inl h
            · exact .inr ⟨_, h, by simp⟩)
          exact ⟨va', 3, vc', e3.symm, hm⟩
        · have hd1 : decide ((k : Int) + 1 < n) = false := decide_eq_false (by omega)
          go_wp2_with fail
          go_meet
          have hx : crow n k n = [.int .i64 0, .int .i64 0, .int .i64 0, .int .i64 0, .int .u32 0, .int .i64 14, .int .i64 0, .int .i64 0, .int .i64 0, .int .u32 0] := by simp [crow, h1, hcn]
          exact ⟨va, 2, 2, by rw [if_neg h1], by rw [hx]; exact HBx.out⟩
      case rest =>
        clear HBx
        obtain ⟨va, m, vc, hm, hbx⟩ := hcut
        have HBx := Lib.hid hbx
        have HM := Lib.hid hm
        have hm4 : m ≤ 3 := by rw [hm]; split <;> omega
        clear hbx hm
        go_upto_if 47 with fail
        go_cut [] (fun wx => ∃ va m vc, m = cct n at_ k ∧ BoxAt wr wx w.heap.size fb k true va m vc (crow n k at_))
        case first =>
          have hcn : ¬ n = k := by omega
          obtain ⟨⟨hz0, hz1, hz2, hz3⟩, hz4, hz5⟩ := HBx.out.cell
          by_cases h1 : k = at_
          · have hd1 : ((k : Int) == at_) = true := by simp; omega
            have H1 := Lib.hid h1
            clear h1
            have H6 : Hid (m + 1 ≤ maxLen ∧ (m + 1) * 40 ≤ 140737488355328 ∧ ∀ o, w.heap.size ≤ (wc.alloc o).heap.size) := Lib.hid ⟨by unfold maxLen; omega, by omega, fun o => by have := HB.out.size; have := HBx.out.bel.size; simp; omega⟩
            go_wp2_with (first
              | (at_builtin; refine wpList_append_own_at _ rfl _ _ 25 rfl w.heap.size 24 ik (.agg #[.int .i64 0, .int .i64 0, .int .i64 0, .int .i64 0, .int .u32 0]) 5 40 Try.underlying25 HIK.out.1 HIK.out.2.1 HIK.out.2.2.1 HIK.out.2.2.2 rfl (by decide) (Value.slice va m vc) m _ rfl (HBx.out.row.alloc _) ⟨wc.heap.size, 0, none⟩ 1 1 [.int .i64 8, .int .i64 0, .int .i64 0, .int .i64 0, .int .u32 0] rfl rfl (five_at rfl _ _) (five_one _ _ _ _ _) H6.out.1 H6.out.2.1 (H6.out.2.2 _) ?_; intro v' w9 hown hgrow hnil hloc; obtain ⟨va', vc', rfl⟩ := own_shape hown; have HOW := Lib.hid hown; have HGR := Lib.hid ((World.grownBy_alloc _ _ _).trans hgrow); have HLOC := Lib.hid hloc; obtain ⟨y0, y1⟩ := HBx.out.cellK HGR.out; clear hown hgrow hnil hloc))
            go_meet
            have hm := HBx.out.more (xs' := crow n k at_) (by
              have h := HOW.out
              have e : crow n k at_ = crow n k n ++ [.int .i64 8, .int .i64 0, .int .i64 0, .int .i64 0, .int .u32 0] := by simp only [crow, if_pos H1.out.symm, if_neg hcn, List.append_nil]
              rw [e]; exact h) HGR.out (by
              rcases HLOC.out with h | h
              · exact .inl h
              · exact .inr ⟨_, h, by simp⟩)
            exact ⟨va', m + 1, vc', by rw [HM.out]; unfold cct; rw [if_pos H1.out], hm⟩
          · have hd1 : ((k : Int) == at_) = false := by simp; omega
            go_wp2_with fail
            go_meet
            have hx : crow n k at_ = crow n k n := by
              have : ¬ at_ = k := fun h => h1 h.symm
              simp only [crow, if_neg this, if_neg hcn]
            exact ⟨va, m, vc, by rw [HM.out]; unfold cct; rw [if_neg h1]; rfl, by rw [hx]; exact HBx.out⟩
        case rest =>
          clear HBx HM hm4
          obtain ⟨va, m, vc, hm, hbx⟩ := hcut
          have HBx := Lib.hid hbx
          have HM := Lib.hid hm
          clear hbx hm
          go_upto_region 15 with fail
          go_cut [] (fun wx => BoxAt wr wx w.heap.size fb k (!(b && decide (k = at_))) va m vc (crow n k at_))
          case first =>
            obtain ⟨⟨hz0, hz1, hz2, hz3⟩, hz4, hz5⟩ := HBx.out.cell
            have HSeal : Hid (∀ s', BoxAt wr (wc.setCell ⟨fb, 2, none⟩ (.bool s')) w.heap.size fb k s' va m vc (crow n k at_)) := Lib.hid fun s' => HBx.out.seal s'
            cases b
            · go_wp2_with fail
              go_meet
              exact HSeal.out true
            · by_cases h1 : k = at_
              · have hd1 : ((k : Int) == at_) = true := by simp; omega
                have H1 := Lib.hid h1
                clear h1
                go_wp2_with fail
                go_meet
                have := HSeal.out false
                rw [show (!(true && decide (k = at_))) = false by simp [H1.out]]
                exact this
              · have hd1 : ((k : Int) == at_) = false := by simp; omega
                go_wp2_with fail
                go_meet
                have := HSeal.out true
                rw [show (!(true && decide (k = at_))) = true by simp [h1]]
                exact this
          case rest =>
            clear HBx
            have HBx := Lib.hid hcut
            obtain ⟨⟨hz0, hz1, hz2, hz3⟩, hz4, hz5⟩ := HBx.out.cell
            obtain ⟨sb, hsb⟩ : ∃ sb, (!(b && decide (k = at_))) = sb := ⟨_, rfl⟩
            rw [hsb] at hz2
            have HSB := Lib.hid hsb
            clear hcut hsb
            have H6 : Hid (k + 1 ≤ maxLen ∧ (k + 1) * 48 ≤ 140737488355328 ∧ ∀ o, w.heap.size ≤ (wc.alloc o).heap.size) := Lib.hid ⟨by unfold maxLen; omega, by omega, fun o => by have := HB.out.size; have := HBx.out.bel.size; simp; omega⟩
            go_wp2_with (first
              | (at_builtin; refine wpList_append_own_at _ rfl _ _ 28 rfl w.heap.size 27 jf (.agg #[.int .i64 0, .int .i64 0, .bool false, .slice none 0 0]) 4 48 Try.underlying28 HIF.out.1 HIF.out.2.1 HIF.out.2.2.1 HIF.out.2.2.2 rfl (by decide) u8 k _ rfl ((HFl.out.below HBx.out.bel).row.alloc _) ⟨wc.heap.size, 0, none⟩ 1 1 [.int .i64 k, .int .i64 0, .bool sb, .slice va m vc] rfl rfl (four_at rfl _ _ _ rfl) (four_one _ _ _ _ _ _) H6.out.1 H6.out.2.1 (H6.out.2.2 _) ?_; intro v' w9 hown hgrow hnil hloc; have HOW := Lib.hid hown; have HGR := Lib.hid hgrow; have HLOC := Lib.hid hloc; clear hown hgrow hnil hloc))
            have HF9 := Lib.hid (chains_push HFl.out HBx.out ((Below.refl _ _).alloc (Nat.le_refl _) _) rfl HM.out rfl (by rw [HSB.out]; exact HOW.out) HGR.out (by
              rcases HLOC.out with h | h
              · exact .inl h
              · exact .inr ⟨_, h, Nat.le_refl _⟩))
            have HB9 : Hid (Below w.heap.size w w9) := Lib.hid (by
              have h1 := HB.out.trans (HBx.out.bel.mono HB.out.size)
              exact (h1.alloc (by have := h1.size; omega) _).grown HGR.out (by have := h1.size; simp; omega) (fun g hg => (HFl.out.row.lt g hg).1))
            go_roundw
            case rel => exact ⟨k + 1, _, _, by omega, by go_num, HF9.out, HB9.out⟩
            case measure => simp [intOf]; omega
    · obtain rfl : k = n := by omega
      have hdd : decide (k < k) = false := by simp
      obtain ⟨g, cc, hu8, hbg⟩ : ∃ g cc, u8 = .slice (some ⟨g, 0, none⟩) k cc ∧ w.heap.size ≤ g := by
        rcases HFl.out.row.2 with ⟨e, e2⟩ | ⟨g, cc, cur, e, hB, rest⟩
        · exact absurd e2 (by show ¬ k = 0; omega)
        · exact ⟨g, cc, e, hB⟩
      subst hu8
      obtain ⟨D, hD⟩ : ∃ D, D = CD b k k at_ pa cp := ⟨_, rfl⟩
      have HOk : Hid (ChainOk D k at_) := Lib.hid (by rw [hD]; exact CD.ok hn2 hat)
      have HF2 : Hid (FlAt wr w.heap.size (.slice (some ⟨g, 0, none⟩) D.n cc) D) := Lib.hid (by rw [hD]; exact HFl.out)
      have HDn : Hid (k = D.n) := Lib.hid HOk.out.nn.symm
      have HB2 := HB
      clear hD HFl HB hbg
      go_wp2_with fail
      clear hdd
      go_loopw [11] (fun i wr => ∃ q : Nat, q ≤ k ∧ i = .int .i64 q ∧ FlAt wr w.heap.size (.slice (some ⟨g, 0, none⟩) D.n cc) D ∧ Below w.heap.size w wr) (fun i _ => k - (intOf i).toNat)
      case atStart => exact ⟨0, by omega, rfl, HF2.out, HB2.out⟩
      case round =>
        obtain ⟨q, hq, rfl, hfl, hb⟩ := hrel
        have HF3 := Lib.hid hfl
        have HB3 := Lib.hid hb
        clear hfl hb
        by_cases hlt : q < k
        · have hqn : q < D.n := by rw [← HDn.out]; exact hlt
          obtain ⟨a', c', hv, hfac⟩ := HF3.out.fac HOk.out.wf HOk.out.few HOk.out.few2
          simp only [Value.slice.injEq] at hv
          obtain ⟨rfl, -, rfl⟩ := hv
          have HFac := Lib.hid hfac
          have c0 := (HF3.out.cell rfl q 0 hqn (by decide)).1
          have c1 := (HF3.out.cell rfl q 1 hqn (by decide)).1
          have c2 := (HF3.out.cell rfl q 2 hqn (by decide)).1
          have c3 := (HF3.out.cell rfl q 3 hqn (by decide)).1
          simp only [facCell] at c0 c1 c2 c3
          simp only [Nat.add_zero, if_true, if_false, Nat.one_ne_zero, Nat.reduceEqDiff] at c0 c1 c2 c3
          have hK : KysAt wr (D.pa q) (D.ct q) (D.key q) := hfac.part q hqn
          have HK := Lib.hid hK
          have HSn2 : Hid (∀ j, j < D.ct q → Sens (D.key q j 0) (D.key q j 1) (D.key q j 2) (D.key q j 3) (D.key q j 4) (snC q j)) := Lib.hid (fun j hj => HOk.out.snk q j hqn hj)
          have HCl := Lib.hid (HOk.out.fn q hqn)
          have q0 : (0 : Int) ≤ q := by omega
          have q1 : (q : Int) < k := by omega
          have h64 := HOk.out.few2 q
          have hwq : wfH (q : Int) := wfH.mk (by omega) (by omega)
          clear hfac hK
          have HC2 : ∀ W, FacAt W (some ⟨g, 0, none⟩) D → KysAt W (D.pa q) (D.ct q) (D.key q) → Calls Try.prog 14 #[.agg #[.int .i64 (D.id q), .int .i64 (D.ver q), .bool (D.sl q), .slice (D.pa q) (D.ct q) (D.cp q)], .slice (some ⟨g, 0, none⟩) k cc] W fun e w' => ∃ v, e = .returned v ∧ KRow w' W.heap.size v (if q < at_ then [2] else if q = at_ then [D.ct q - 1] else []) (D.key q) ∧ Below W.heap.size W w' := fun W h1 h2 => by
            rw [← HCl.out]
            exact hof_is (some ⟨g, 0, none⟩) D k cc HDn snC (fun i => decide (i ≤ at_)) (Lib.hid HOk.out.ris) (D.id q) (D.ver q) (D.sl q) (D.pa q) (D.ct q) (D.cp q) (D.key q) (snC q) h64 HSn2 _ (Lib.hid fun j hj => rfl) W h1 h2 (Lib.hid HOk.out.snk)
          have HI2 : ∀ W, FacAt W (some ⟨g, 0, none⟩) D → Calls Try.prog 11 #[.agg #[.int .i64 9, .int .i64 q, .int .i64 0, .int .i64 0, .int .u32 0], .slice (some ⟨g, 0, none⟩) k cc] W fun e w' => e = .returned (.bool (decide (q ≤ at_))) ∧ Below W.heap.size W w' := fun W h1 =>
            hisf_is 9 (q : Int) 0 0 0 (some ⟨g, 0, none⟩) D k cc HDn snC (fun i => decide (i ≤ at_)) (Lib.hid HOk.out.ris) false _ (Lib.hid (HOk.out.is q hqn)) hwq (wfH.mk (by omega) (by omega)) (sens9 q 0) W h1 (Lib.hid HOk.out.snk)
          have HLast : Hid (q = at_ → ∀ z, D.key q (D.ct q - 1) z = if z = 0 then 8 else 0) := Lib.hid fun e => by rw [e]; exact HOk.out.last
          have HI := Lib.hid HI2
          clear HI2 h64 hwq
          generalize D.id q = xi at c0 HC2
          generalize D.ver q = xv at c1 HC2
          generalize D.sl q = xs at c2 HC2
          generalize D.key q = xk at HC2 HK HLast
          generalize hpa : D.pa q = xp at c3 HC2 HK
          generalize hct : D.ct q = xc at c3 HC2 HK HLast
          generalize hcp : D.cp q = xd at c3 HC2
          clear hpa hct hcp HSn2 HCl
          by_cases h1 : q < at_
          · have HC : Hid (∀ W, FacAt W (some ⟨g, 0, none⟩) D → KysAt W xp xc xk → Calls Try.prog 14 #[.agg #[.int .i64 xi, .int .i64 xv, .bool xs, .slice xp xc xd], .slice (some ⟨g, 0, none⟩) k cc] W fun e w' => (∃ va vc, e = .returned (.slice va 1 vc)) ∧ Below W.heap.size W w') := Lib.hid fun W h2 h3 => (HC2 W h2 h3).mono (by
              rintro e w' ⟨v, rfl, hr, hb⟩
              rw [if_pos h1] at hr
              obtain ⟨va, vc, rfl⟩ := hof_empty hr
              exact ⟨⟨va, vc, rfl⟩, hb⟩)
            have HI3 : Hid (∀ W, FacAt W (some ⟨g, 0, none⟩) D → Calls Try.prog 11 #[.agg #[.int .i64 9, .int .i64 q, .int .i64 0, .int .i64 0, .int .u32 0], .slice (some ⟨g, 0, none⟩) k cc] W fun e w' => e = .returned (.bool true) ∧ Below W.heap.size W w') := Lib.hid fun W h2 => by have h := HI.out W h2; rwa [show decide (q ≤ at_) = true by simp; omega] at h
            have d1 : decide ((q : Int) < at_) = true := decide_eq_true (by omega)
            have n1 : decide (q < at_) = true := decide_eq_true (by omega)
            have d2 : ((q : Int) == at_) = false := by simp; omega
            have d3 : decide ((q : Int) ≤ at_) = true := decide_eq_true (by omega)
            have n3 : decide (q ≤ at_) = true := decide_eq_true (by omega)
            clear HC2 HLast HI h1
            go_wp2_with (first
              | (go_at_call 14; (with_reducible refine (HC.out _ HFac.out HK.out).mono ?_); rintro e w5 ⟨⟨va, vc, rfl⟩, hb⟩; have HB5 := Lib.hid hb; clear hb)
              | (go_at_call 11; (with_reducible refine (HI3.out _ (HFac.out.below HB5.out)).mono ?_); rintro e w6 ⟨rfl, hb⟩; have HB6 := Lib.hid (HB5.out.trans (hb.mono HB5.out.size)); clear hb))
            go_roundw
            case rel => exact ⟨q + 1, by omega, by go_num, HF3.out.below HB6.out, HB3.out.trans (HB6.out.mono HB3.out.size)⟩
            case measure => simp [intOf]; omega
          · by_cases h2 : q = at_
            · have HC : Hid (∀ W, FacAt W (some ⟨g, 0, none⟩) D → KysAt W xp xc xk → Calls Try.prog 14 #[.agg #[.int .i64 xi, .int .i64 xv, .bool xs, .slice xp xc xd], .slice (some ⟨g, 0, none⟩) k cc] W fun e w' => (∃ vg vc, e = .returned (.slice (some ⟨vg, 0, none⟩) 1 vc) ∧ vg < w'.heap.size ∧ InF w' ⟨vg, 0, none⟩ 8 0 0 0 0) ∧ Below W.heap.size W w') := Lib.hid fun W h3 h4 => (HC2 W h3 h4).mono (by
                rintro e w' ⟨v, rfl, hr, hb⟩
                rw [if_neg h1, if_pos h2] at hr
                obtain ⟨va, vc, rfl⟩ := hof_empty hr
                rcases hr.2 with ⟨e, e2⟩ | ⟨vg, cap, cur, e, hB, hg, rest⟩
                · cases e2
                · simp only [Value.slice.injEq] at e
                  obtain ⟨rfl, _, rfl⟩ := e
                  have hl := HLast.out h2
                  have cell : ∀ z, z < 5 → w'.cell? ⟨vg, z, none⟩ = (kcells xk (xc - 1))[z]? := fun z hz => by
                    have h := World.ownsRow.cellAt hr z (by simpa using hz)
                    simpa [keyRow] using h
                  have c0 := cell 0 (by decide)
                  have c1 := cell 1 (by decide)
                  have c2 := cell 2 (by decide)
                  have c3 := cell 3 (by decide)
                  have c4 := cell 4 (by decide)
                  simp [kcells, hl] at c0 c1 c2 c3 c4
                  exact ⟨⟨vg, vc, rfl, (hr.lt vg rfl).2, c0, c1, c2, c3, c4⟩, hb⟩)
              have HI3 : Hid (∀ W, FacAt W (some ⟨g, 0, none⟩) D → Calls Try.prog 11 #[.agg #[.int .i64 9, .int .i64 q, .int .i64 0, .int .i64 0, .int .u32 0], .slice (some ⟨g, 0, none⟩) k cc] W fun e w' => e = .returned (.bool true) ∧ Below W.heap.size W w') := Lib.hid fun W h3 => by have h := HI.out W h3; rwa [show decide (q ≤ at_) = true by simp; omega] at h
              have d1 : decide ((q : Int) < at_) = false := decide_eq_false (by omega)
              have n1 : decide (q < at_) = false := decide_eq_false (by omega)
              have d2 : ((q : Int) == at_) = true := by simp; omega
              have d3 : decide ((q : Int) ≤ at_) = true := decide_eq_true (by omega)
              have n3 : decide (q ≤ at_) = true := decide_eq_true (by omega)
              clear HC2 HLast HI h2 h1
              go_wp2_with (first
                | (go_at_call 14; (with_reducible refine (HC.out _ HFac.out HK.out).mono ?_); rintro e w5 ⟨⟨vg, vc, rfl, vl, vi⟩, hb⟩; have HB5 := Lib.hid hb; have HVL := Lib.hid vl; have HVI := Lib.hid vi; clear hb vl vi)
                | (go_at_call 11; (with_reducible refine (HI3.out _ (HFac.out.below HB5.out)).mono ?_); rintro e w6 ⟨rfl, hb⟩; obtain ⟨x0, x1, x2, x3, x4⟩ := HVI.out.below hb HVL.out; have HB6 := Lib.hid (HB5.out.trans (hb.mono HB5.out.size)); clear hb)
                | (go_at_call 17; (with_reducible refine (same_is 8 0 0 0 0 8 0 0 0 0 true (Lib.hid rfl) _).mono ?_); rintro e w7 ⟨rfl, hb⟩; have HB7 := Lib.hid (HB6.out.trans (hb.mono HB6.out.size)); clear hb))
              go_roundw
              case rel => exact ⟨q + 1, by omega, by go_num, HF3.out.below HB7.out, HB3.out.trans (HB7.out.mono HB3.out.size)⟩
              case measure => simp [intOf]; omega
            · have HC : Hid (∀ W, FacAt W (some ⟨g, 0, none⟩) D → KysAt W xp xc xk → Calls Try.prog 14 #[.agg #[.int .i64 xi, .int .i64 xv, .bool xs, .slice xp xc xd], .slice (some ⟨g, 0, none⟩) k cc] W fun e w' => (∃ va vc, e = .returned (.slice va 0 vc)) ∧ Below W.heap.size W w') := Lib.hid fun W h3 h4 => (HC2 W h3 h4).mono (by
                rintro e w' ⟨v, rfl, hr, hb⟩
                rw [if_neg h1, if_neg h2] at hr
                obtain ⟨va, vc, rfl⟩ := hof_empty hr
                exact ⟨⟨va, vc, rfl⟩, hb⟩)
              have HI3 : Hid (∀ W, FacAt W (some ⟨g, 0, none⟩) D → Calls Try.prog 11 #[.agg #[.int .i64 9, .int .i64 q, .int .i64 0, .int .i64 0, .int .u32 0], .slice (some ⟨g, 0, none⟩) k cc] W fun e w' => e = .returned (.bool false) ∧ Below W.heap.size W w') := Lib.hid fun W h3 => by have h := HI.out W h3; rwa [show decide (q ≤ at_) = false by simp; omega] at h
              have d1 : decide ((q : Int) < at_) = false := decide_eq_false (by omega)
              have n1 : decide (q < at_) = false := decide_eq_false (by omega)
              have d2 : ((q : Int) == at_) = false := by simp; omega
              have d3 : decide ((q : Int) ≤ at_) = false := decide_eq_false (by omega)
              have n3 : decide (q ≤ at_) = false := decide_eq_false (by omega)
              clear HC2 HLast HI h1 h2
              go_wp2_with (first
                | (go_at_call 14; (with_reducible refine (HC.out _ HFac.out HK.out).mono ?_); rintro e w5 ⟨⟨va, vc, rfl⟩, hb⟩; have HB5 := Lib.hid hb; clear hb)
                | (go_at_call 11; (with_reducible refine (HI3.out _ (HFac.out.below HB5.out)).mono ?_); rintro e w6 ⟨rfl, hb⟩; have HB6 := Lib.hid (HB5.out.trans (hb.mono HB5.out.size)); clear hb))
              go_roundw
              case rel => exact ⟨q + 1, by omega, by go_num, HF3.out.below HB6.out, HB3.out.trans (HB6.out.mono HB3.out.size)⟩
              case measure => simp [intOf]; omega
        · obtain rfl : q = k := by omega
          have hqq : decide (q < q) = false := by simp
          go_wp2_with fail
          go_ret
          exact ⟨rfl, HB3.out⟩
theorem walk_HoleChains (a0 : Int) (a1 : Int) (a2 : Bool) (w : World) (w0 : (Lit.int .i64 a0).wf = true) (w1 : (Lit.int .i64 a1).wf = true) :
    Calls Try.prog 5 #[.int .i64 a0, .int .i64 a1, .bool a2] w fun e w' => e = .returned (.bool true) ∧ Below w.heap.size w w' :=
  chains_any a0 a1 a2 (hi64_fit w0).1 (hi64_fit w0).2 (hi64_fit w1).1 (hi64_fit w1).2 w
end Go.Proofs.Ytahhnfhnlffmpaa
