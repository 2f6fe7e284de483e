/-
  Oi, Oj as one.
-/
import Derived.Test.YtncopdhhchmpeaaGreatDoorP12
import Derived.Test.YtncopdhhchmpeaaGreatDoorArV
namespace Go.Proofs.YtncopdhhchmpeaaGreatDoor
open Go.ChangeShapes Go.WideShapes Go.ChangeAt Go.RowKit
set_option linter.unusedVariables false
set_option linter.unusedSimpArgs false
set_option maxRecDepth 100000 in
set_option maxHeartbeats 2000000 in
theorem oask {Q : World → Prop} {nt : List Value} (hnl : nt.length = 19) (hn1 : ∀ v, v ∈ nt → v.oneCell' = true) (k0 k1 k2 k3 k4 : Int) (o x : Int) (s sb N : Nat) (w : World) (hN : N ≤ w.heap.size) (hs : w.cell? ⟨sb, 0, none⟩ = some (.pointer (some ⟨s, 0, none⟩)))
    (hQ : ∀ w1 w2, Q w1 → Below N w1 w2 → Q w2)
    (hA : ∀ W, Below w.heap.size w W → Calls Tryz.prog 32 #[.pointer (some ⟨s, 0, none⟩), (Value.agg #[.int .i64 k0, .int .i64 k1, .int .i64 k2, .int .i64 k3, .int .u32 k4]), .agg #[.int .u32 o, .int .u32 x, .int .u32 0, .int .u32 0, .int .i64 0, .int .i64 0, .int .i64 0, .int .i64 0, .int .u32 0, .int .i64 0, .int .i64 0, .int .i64 0, .int .i64 0, .int .u32 0, .int .i64 0, .int .i64 0, .int .i64 0, .int .i64 0, .int .u32 0]] W fun e w' => e = .returned (.tuple #[.agg nt.toArray, .bool true]) ∧ Q w' ∧ UpT N W w') :
    Calls Tryz.prog 44 #[(Value.agg #[.int .i64 k0, .int .i64 k1, .int .i64 k2, .int .i64 k3, .int .u32 k4]), .int .u32 o, .int .u32 x, .pointer (some ⟨sb, 0, none⟩)] w fun e w' => e = .returned (.agg nt.toArray) ∧ Q w' ∧ UpT N w w' := by
  have HQ := Lib.hid hQ
  have HAn := Lib.hid hA
  have hsl : sb < w.heap.size := cell_lt hs
  have hsz : nt.toArray.size = 19 := by simp [hnl]
  clear hQ hA
  go_enter Tryz.func44, Tryz.ntmps44
  go_upto_region 1 with fail
  generalize hA : World.alloc w _ = wa
  obtain ⟨KB, hKB⟩ : ∃ KB, KB = w.heap.size := ⟨_, rfl⟩
  have HK : Hid (Below w.heap.size w wa ∧ KeyC wa KB k0 k1 k2 k3 k4 ∧ wa.heap.size = KB + 1 ∧ w.heap.size ≤ KB) := Lib.hid (by rw [← hA, hKB]; exact ⟨(Below.refl _ _).alloc (Nat.le_refl _) _, KeyC.new w k0 k1 k2 k3 k4 _, by simp, Nat.le_refl _⟩)
  rw [← hKB]
  clear hA hKB
  generalize hA : World.alloc wa _ = wd
  obtain ⟨R, hR⟩ : ∃ R, R = KB + 1 := ⟨_, rfl⟩
  have HR : Hid (Below w.heap.size w wd ∧ KeyC wd KB k0 k1 k2 k3 k4 ∧ World.there wd R 0 19 ∧ R < wd.heap.size ∧ w.heap.size ≤ R) := Lib.hid (by rw [← hA, hR, ← HK.out.2.2.1]; exact ⟨HK.out.1.alloc HK.out.1.size _, HK.out.2.1.below ((Below.refl _ _).alloc (Nat.le_refl _) _), nthere_new _ _ 19 (by rfl) _, by simp, HK.out.1.size⟩)
  rw [← hR]
  clear hA hR
  have sc := (HR.out.1.cell (p := ⟨sb, 0, none⟩) hsl).trans hs
  obtain ⟨q0, q1, q2, q3, q4⟩ := ofive HR.out.2.1
  go_upto_region 2 with (first
    | (go_at_call 32; (with_reducible refine (HAn.out _ HR.out.1).mono ?_); rintro e w1 ⟨rfl, hq, hu⟩; have H1 := Lib.hid hq; have HU1 := Lib.hid hu; have HT1 : Hid (World.there w1 R 0 19 ∧ R < w1.heap.size) := (Lib.hid ⟨nthere_same HR.out.2.2.1 (hu.2 R (Nat.le_trans hN HR.out.2.2.2.2) HR.out.2.2.2.1), Nat.lt_of_lt_of_le HR.out.2.2.2.1 hu.1⟩); clear hq hu)
    | (refine wpList_store_mid (by rfl) _ _ _ (by rfl) w1.heap.size 0 nt.toArray (by rfl) (by rfl) (by rw [hsz]; exact nthere_new _ _ 19 (by rfl) _) (by rw [hsz]; exact infoNote) (all_one hn1) ?_))
  generalize hA : World.setCells _ w1.heap.size 0 _ = w2
  obtain ⟨Y, hY⟩ : ∃ Y, Y = w1.heap.size := ⟨_, rfl⟩
  have hwz : w.heap.size ≤ w1.heap.size := Nat.le_trans HR.out.1.size HU1.out.1
  have H2 : Hid (Below w1.heap.size w1 w2 ∧ w2.rangeAt Y 0 nt ∧ World.there w2 R 0 19) := Lib.hid (by
    have hb : Below w1.heap.size w1 w2 := by rw [← hA]; exact nbelow_cells ((Below.refl w1.heap.size w1).alloc (Nat.le_refl _) _) (Nat.le_refl _) _ _
    refine ⟨hb, ?_, nthere_below HT1.out.1 hb HT1.out.2⟩
    rw [← hA, hY]
    exact World.rangeAt_setCells_same _ w1.heap.size 0 nt (by rw [hnl]; exact nthere_new _ _ 19 (by rfl) _))
  rw [← hY]
  clear hA hY
  go_wp2_with (first
    | (refine wpList_load_mid (by rfl) _ _ (by rfl) Y 0 (by rfl) nt _ H2.out.2.1 Tryz.underlying64 rfl (by rw [hnl]; exact infoNote) ?_)
    | (refine wpList_store_mid (by rfl) _ _ _ (by rfl) R 0 nt.toArray (by rfl) (by rfl) (by rw [hsz]; exact H2.out.2.2) (by rw [hsz]; exact infoNote) (all_one hn1) ?_))
  have HS : Hid (Below w.heap.size w1 (w2.setCells R 0 nt.toArray.toList) ∧ (w2.setCells R 0 nt.toArray.toList).rangeAt R 0 nt) := Lib.hid ⟨nbelow_cells (H2.out.1.mono hwz) HR.out.2.2.2.2 _ _, World.rangeAt_setCells_same w2 R 0 nt (by rw [hnl]; exact H2.out.2.2)⟩
  have hld := nload hnl HS.out.2
  refine bodyPost_ret (v := (.agg nt.toArray)) (by simp [results, Tryz.results44, Act.put, asAddr, hld]) rfl ⟨rfl, HQ.out _ _ H1.out (HS.out.1.mono hN), ((UpT.below HR.out.1).trans HU1.out).low HS.out.1 (Nat.le_refl _)⟩
theorem ask_of {L : BLoc} {X : SLoc} {th th' : Nat → Bool} {mv mv' pr pr' tk tk' : Nat → Int} {nt : List Value} (hnl : nt.length = 19) (hn1 : ∀ v, v ∈ nt → v.oneCell' = true) (id v o x : Int) (hr : Hid (rightB 7 id v 0 0 = true)) (hl : Hid ((thereB X.tn th id && (mv id.toNat == v)) = true)) (vs vr : Value) (sb : Nat) (w : World) (hE : ErrsAt vs vr w) (hs : w.cell? ⟨sb, 0, none⟩ = some (.pointer (some ⟨X.s, 0, none⟩))) (h : MS w L X th mv pr tk)
    (hm : ∀ cs, Hid (CallC cs X.s 7 id v 0 0 o x) → ∀ W, MS W L X th mv pr tk → Calls Tryz.prog 116 #[(.agg cs.toArray)] W fun e w' => e = .returned (.agg nt.toArray) ∧ MS w' L X th' mv' pr' tk' ∧ PBelow W w' X.tR X.tG) :
    Calls Tryz.prog 44 #[(Value.agg #[.int .i64 7, .int .i64 id, .int .i64 v, .int .i64 0, .int .u32 0]), .int .u32 o, .int .u32 x, .pointer (some ⟨sb, 0, none⟩)] w fun e w' => e = .returned (.agg nt.toArray) ∧ MS w' L X th' mv' pr' tk' ∧ PBelow w w' X.tR X.tG := by
  have hQ : ∀ w1 w2, (MS w1 L X th' mv' pr' tk' ∧ PBelow w w1 X.tR X.tG) → Below w.heap.size w1 w2 → (MS w2 L X th' mv' pr' tk' ∧ PBelow w w2 X.tR X.tG) := fun w1 w2 hq hb => ⟨hq.1.low hb h.lts, hq.2.low hb⟩
  refine (oask (Q := fun w' => MS w' L X th' mv' pr' tk' ∧ PBelow w w' X.tR X.tG) hnl hn1 7 id v 0 0 o x X.s sb w.heap.size w (Nat.le_refl _) hs hQ (fun W hW => ?_)).mono (fun e w' h9 => ⟨h9.1, h9.2.1⟩)
  refine oanswer (Q := fun w' => MS w' L X th' mv' pr' tk' ∧ PBelow w w' X.tR X.tG) hnl hn1 X.s 7 id v 0 0 7 id v 0 0 o x 0 0 0 0 0 0 0 0 0 0 0 0 0 0 0 0 0 0 0 0 0 0 0 0 0 0 0 0 0 0 0 0 (by decide) (by decide) W hW.size hQ ?_ ?_ ?_ ?_ ?_
  · exact fun V hV => oseen_meter id v hr hl vs vr V (hE.below (hW.trans (hV.mono hW.size))) (h.below (hW.trans (hV.mono hW.size)))
  · exact fun V hV => oseen_void X.s vs vr V (hE.below (hW.trans (hV.mono hW.size)))
  · exact fun V hV => oseen_void X.s vs vr V (hE.below (hW.trans (hV.mono hW.size)))
  · exact fun V hV => oseen_void X.s vs vr V (hE.below (hW.trans (hV.mono hW.size)))
  · intro V hV
    have hWV := hW.trans (hV.mono hW.size)
    refine oanswer_meter (Q := fun w' => MS w' L X th' mv' pr' tk' ∧ PBelow w w' X.tR X.tG) hnl hn1 (Lib.hid (c25_call X.s 7 id v 0 0 o x 0 0 0 0 0 0 0 0 0 0 0 0 0 0 0 0 0)) V hWV.size hQ (fun U hU => ?_)
    have hWU := hWV.trans (hU.mono hWV.size)
    exact (hm _ (Lib.hid (c25_call X.s 7 id v 0 0 o x 0 0 0 0 0 0 0 0 0 0 0 0 0 0 0 0 0)) U (h.below hWU)).mono (fun e w' h9 => ⟨h9.1, ⟨h9.2.1, (PBelow.of_below hWU).trans h9.2.2⟩, UpT.pb h9.2.2 h.lts.R h.lts.G⟩)
theorem answer_none (s : Nat) (vs vr : Value) (W : World) (hE : ErrsAt vs vr W) : Calls Tryz.prog 32 #[.pointer (some ⟨s, 0, none⟩), (Value.agg #[.int .i64 0, .int .i64 0, .int .i64 0, .int .i64 0, .int .u32 0]), .agg #[.int .u32 0, .int .u32 0, .int .u32 0, .int .u32 0, .int .i64 0, .int .i64 0, .int .i64 0, .int .i64 0, .int .u32 0, .int .i64 0, .int .i64 0, .int .i64 0, .int .i64 0, .int .u32 0, .int .i64 0, .int .i64 0, .int .i64 0, .int .i64 0, .int .u32 0]] W fun e w' => e = .returned (.tuple #[(Value.agg #[.int .u32 1, .int .u32 0, .int .u32 0, .int .u32 0, .int .i64 0, .int .i64 0, .int .i64 0, .int .i64 0, .int .u32 0, .int .i64 0, .int .i64 0, .int .i64 0, .int .i64 0, .int .u32 0, .int .i64 0, .int .i64 0, .int .i64 0, .int .i64 0, .int .u32 0]), .bool true]) ∧ Below W.heap.size W w' := by
  refine (oanswer (Q := fun w' => Below W.heap.size W w') (N := W.heap.size) (nt := [.int .u32 1, .int .u32 0, .int .u32 0, .int .u32 0, .int .i64 0, .int .i64 0, .int .i64 0, .int .i64 0, .int .u32 0, .int .i64 0, .int .i64 0, .int .i64 0, .int .i64 0, .int .u32 0, .int .i64 0, .int .i64 0, .int .i64 0, .int .i64 0, .int .u32 0]) rfl (by simp [Value.oneCell']) s 0 0 0 0 0 0 0 0 0 0 0 0 0 0 0 0 0 0 0 0 0 0 0 0 0 0 0 0 0 0 0 0 0 0 0 0 0 0 0 0 0 0 0 0 (by decide) (by decide) W (Nat.le_refl _) (fun w1 w2 h1 h2 => h1.trans h2) ?_ ?_ ?_ ?_ ?_).mono (fun e w' h9 => ⟨h9.1, h9.2.1⟩)
  · exact fun V hV => oseen_void s vs vr V (hE.below hV)
  · exact fun V hV => oseen_void s vs vr V (hE.below hV)
  · exact fun V hV => oseen_void s vs vr V (hE.below hV)
  · exact fun V hV => oseen_void s vs vr V (hE.below hV)
  · exact fun V hV => (oanswer_void (Lib.hid (c25_call s 0 0 0 0 0 0 0 0 0 0 0 0 0 0 0 0 0 0 0 0 0 0 0 0)) V).mono (fun e w' h9 => ⟨h9.1, hV.trans (h9.2.mono hV.size), UpT.below h9.2⟩)
/-- A note as a list of cells. -/
structure NtC (nt : List Value) (o a : Int) : Prop where
  len : nt.length = 19
  one : ∀ v, v ∈ nt → v.oneCell' = true
  c0 : nt[0]? = some (.int .u32 o)
  c1 : nt[1]? = some (.int .u32 a)
theorem answer_none2 : ∃ nt, NtC nt 1 0 ∧ ∀ (s : Nat) (vs vr : Value) (W : World), ErrsAt vs vr W → Calls Tryz.prog 32 #[.pointer (some ⟨s, 0, none⟩), (Value.agg #[.int .i64 0, .int .i64 0, .int .i64 0, .int .i64 0, .int .u32 0]), .agg #[.int .u32 0, .int .u32 0, .int .u32 0, .int .u32 0, .int .i64 0, .int .i64 0, .int .i64 0, .int .i64 0, .int .u32 0, .int .i64 0, .int .i64 0, .int .i64 0, .int .i64 0, .int .u32 0, .int .i64 0, .int .i64 0, .int .i64 0, .int .i64 0, .int .u32 0]] W fun e w' => e = .returned (.tuple #[.agg nt.toArray, .bool true]) ∧ Below W.heap.size W w' :=
  ⟨[.int .u32 1, .int .u32 0, .int .u32 0, .int .u32 0, .int .i64 0, .int .i64 0, .int .i64 0, .int .i64 0, .int .u32 0, .int .i64 0, .int .i64 0, .int .i64 0, .int .i64 0, .int .u32 0, .int .i64 0, .int .i64 0, .int .i64 0, .int .i64 0, .int .u32 0], ⟨rfl, by simp [Value.oneCell'], rfl, rfl⟩, answer_none⟩
set_option maxRecDepth 100000 in
set_option maxHeartbeats 2000000 in
theorem first22_is (vs vr : Value) (w : World) (hE : ErrsAt vs vr w) : Calls Tryz.prog 27 #[] w fun e w' => e = .returned (.bool true) ∧ Below w.heap.size w w' := by
  have HE := Lib.hid hE
  clear hE
  obtain ⟨nt, hN, hAn⟩ := answer_none2
  have HN := Lib.hid hN
  have HAn := Lib.hid hAn
  have hsz : nt.toArray.size = 19 := by simp [hN.len]
  clear hN hAn
  go_enter Tryz.func27, Tryz.ntmps27
  go_upto_region 4 with (first
    | (go_at_call 11; (with_reducible refine (script_ok _).mono ?_); rintro e w1 ⟨L, X, x, rfl, hs, -, hb⟩; have HB1 := Lib.hid hb; clear hs hb))
  have HA1 := Lib.hid (HAn.out X.s vs vr w1 (HE.out.below HB1.out))
  go_upto_region 5 with (first
    | (go_at_call 32; (with_reducible refine HA1.out.mono ?_); rintro e w2 ⟨rfl, hb⟩; have HB2 := Lib.hid (HB1.out.trans (hb.mono HB1.out.size)); clear hb)
    | (refine wpList_store_mid (by rfl) _ _ _ (by rfl) w2.heap.size 0 nt.toArray (by rfl) (by rfl) (by rw [hsz]; exact nthere_new _ _ 19 (by rfl) _) (by rw [hsz]; exact infoNote) (all_one HN.out.one) ?_))
  generalize hA : World.setCells _ w2.heap.size 0 _ = w3
  obtain ⟨Y, hY⟩ : ∃ Y, Y = w2.heap.size := ⟨_, rfl⟩
  have H3 : Hid (Below w.heap.size w w3 ∧ w3.rangeAt Y 0 nt) := Lib.hid (by rw [← hA, hY]; exact ⟨nbelow_cells (HB2.out.alloc HB2.out.size _) HB2.out.size _ _, World.rangeAt_setCells_same _ w2.heap.size 0 nt (by rw [HN.out.len]; exact nthere_new _ _ 19 (by rfl) _)⟩)
  rw [← hY]
  clear hA hY
  have q0 := CallC.cell H3.out.2 0 _ HN.out.c0
  go_wp2_with fail
  go_ret
  exact ⟨rfl, H3.out.1⟩
end Go.Proofs.YtncopdhhchmpeaaGreatDoor
namespace Go.Proofs.YtncopdhhchmpeaaGreatDoor
open Go.ChangeShapes Go.WideShapes Go.ChangeAt Go.RowKit
set_option linter.unusedVariables false
set_option linter.unusedSimpArgs false
def mV : Nat → Int := fun _ => 0
def mT1 : Nat → Bool := upd (fun _ => false) 0 true
def mP1 : Nat → Int := upd (fun _ => 0) 0 (-1)
def mK1 : Nat → Int := upd (fun _ => 0) 0 50
def mT2 : Nat → Bool := upd mT1 1 true
def mP2 : Nat → Int := upd mP1 1 ((0 : Nat) : Int)
def mK2 (A : Int) : Nat → Int := upd mK1 1 A
def mK3 (A B : Int) : Nat → Int := upd (mK2 A) 1 (A + B)
def mK4 (A B z : Int) : Nat → Int := decx z (mK3 A B) 1 2
/-- What is answered to the order that makes a meter. -/
def noteX : List Value := [.int .u32 0, .int .u32 0, .int .u32 0, .int .u32 0, .int .i64 7, .int .i64 1, .int .i64 0, .int .i64 0, .int .u32 0, .int .i64 0, .int .i64 0, .int .i64 0, .int .i64 0, .int .u32 0, .int .i64 0, .int .i64 0, .int .i64 0, .int .i64 0, .int .u32 0]
structure NX (nt : List Value) : Prop where
  len : nt.length = 19
  one : ∀ v, v ∈ nt → v.oneCell' = true
  c0 : nt[0]? = some (.int .u32 0)
  c4 : nt[4]? = some (.int .i64 7)
  c5 : nt[5]? = some (.int .i64 1)
  c6 : nt[6]? = some (.int .i64 0)
  c7 : nt[7]? = some (.int .i64 0)
  c8 : nt[8]? = some (.int .u32 0)
theorem noteX_is : NX noteX := ⟨rfl, by simp [noteX, Value.oneCell'], rfl, rfl, rfl, rfl, rfl, rfl⟩
theorem mT1_all : ∀ q, q ≤ 0 → mT1 q = true := by intro q hq; obtain rfl : q = 0 := (by omega); rfl
theorem mP1_all : ∀ q, q ≤ 0 → mP1 q = (q : Int) - 1 := by intro q hq; obtain rfl : q = 0 := (by omega); rfl
theorem mT2_all : ∀ q, q ≤ 1 → mT2 q = true := by
  intro q hq
  obtain rfl | rfl : q = 0 ∨ q = 1 := by omega
  · rfl
  · rfl
theorem mP2_all : ∀ q, q ≤ 1 → mP2 q = (q : Int) - 1 := by
  intro q hq
  obtain rfl | rfl : q = 0 ∨ q = 1 := by omega
  · rfl
  · rfl
theorem mT1_no : ∀ q, q < 1 → freeB mT1 mV q = false := by intro q hq; obtain rfl : q = 0 := (by omega); rfl
section
variable {L : BLoc} {X : SLoc}
theorem ms_make (w : World) (h : MS w L X (fun _ => false) (fun _ => 0) (fun _ => 0) (fun _ => 0)) : Calls Tryz.prog 19 #[.pointer (some ⟨X.tP, 0, none⟩), .int .i64 (-1), .int .i64 50] w fun e w' => e = .returned (.tuple #[.int .i64 0, .int .i64 0, .nilIface]) ∧ MS w' L X mT1 mV mP1 mK1 ∧ PBelow w w' X.tR X.tG :=
  (mmake_zero (n := X.tn) (th := fun _ => false) (vr := fun _ => 0) (pr := fun _ => 0) (tk := fun _ => 0) 50 (by decide) (by decide) (by rw [h.n8]; decide) (Lib.hid (by rfl)) 0 (Lib.hid rfl) w h.t).mono (fun e w' h9 => ⟨h9.1, h.turn h9.2.1 h9.2.2, h9.2.2⟩)
theorem ms_key (w : World) (h : MS w L X mT1 mV mP1 mK1) : Calls Tryz.prog 16 #[.pointer (some ⟨X.s, 0, none⟩), .int .i64 7, .int .i64 0] w fun e w' => e = .returned (.agg #[.int .i64 7, .int .i64 0, .int .i64 0, .int .i64 0, .int .u32 0]) ∧ Below w.heap.size w w' :=
  skey_meter 0 0 X.tp w h.b h.t.f0 (fun W hW => aver_in (n := X.tn) (vr := mV) 0 (by rw [h.n8]; decide) 0 (Lib.hid rfl) W (h.below hW).t.ar) (fun W hW => slive_meter 0 0 0 0 X.tp X.tR X.tn X.tn X.tB mT1 mV true (Lib.hid (by rw [h.n8]; rfl)) W (h.below hW).b (h.below hW).t.f0 (h.below hW).t.ar)
variable (vs vr : Value) (sb : Nat) (w : World) (hE : ErrsAt vs vr w) (hs : w.cell? ⟨sb, 0, none⟩ = some (.pointer (some ⟨X.s, 0, none⟩)))
include hE hs
theorem ask_make (A : Int) (a0 : 0 ≤ A) (a1 : A ≤ 1000) (h : MS w L X mT1 mV mP1 mK1) : Calls Tryz.prog 44 #[.agg #[.int .i64 7, .int .i64 0, .int .i64 0, .int .i64 0, .int .u32 0], .int .u32 2, .int .u32 A, .pointer (some ⟨sb, 0, none⟩)] w fun e w' => e = .returned (.agg noteX.toArray) ∧ MS w' L X mT2 mV mP2 (mK2 A) ∧ PBelow w w' X.tR X.tG :=
  ask_of noteX_is.len noteX_is.one 0 0 2 A (Lib.hid (by decide)) (Lib.hid (by rw [h.n8]; rfl)) vs vr sb w hE hs h (fun cs hc W hW => cmeter_2 0 1 (Lib.hid rfl) rfl (by decide) (Lib.hid mT1_all) (Lib.hid mP1_all) (Lib.hid (by rfl)) (Lib.hid mT1_no) 0 (Lib.hid rfl) a0 a1 hc W hW)
theorem ask_add (A B : Int) (a0 : 0 ≤ A) (a1 : A ≤ 1000) (b0 : 0 ≤ B) (b1 : B ≤ 1000) (h : MS w L X mT2 mV mP2 (mK2 A)) : Calls Tryz.prog 44 #[.agg #[.int .i64 7, .int .i64 1, .int .i64 0, .int .i64 0, .int .u32 0], .int .u32 1, .int .u32 B, .pointer (some ⟨sb, 0, none⟩)] w fun e w' => e = .returned (Value.agg #[.int .u32 0, .int .u32 0, .int .u32 0, .int .u32 0, .int .i64 0, .int .i64 0, .int .i64 0, .int .i64 0, .int .u32 0, .int .i64 0, .int .i64 0, .int .i64 0, .int .i64 0, .int .u32 0, .int .i64 0, .int .i64 0, .int .i64 0, .int .i64 0, .int .u32 0]) ∧ MS w' L X mT2 mV mP2 (mK3 A B) ∧ PBelow w w' X.tR X.tG :=
  ask_of (nt := [.int .u32 0, .int .u32 0, .int .u32 0, .int .u32 0, .int .i64 0, .int .i64 0, .int .i64 0, .int .i64 0, .int .u32 0, .int .i64 0, .int .i64 0, .int .i64 0, .int .i64 0, .int .u32 0, .int .i64 0, .int .i64 0, .int .i64 0, .int .i64 0, .int .u32 0]) rfl (by simp [Value.oneCell']) 1 0 1 B (Lib.hid (by decide)) (Lib.hid (by rw [h.n8]; rfl)) vs vr sb w hE hs h (fun cs hc W hW => cmeter_1 1 (Lib.hid rfl) (by decide) (Lib.hid (by rfl)) A a0 (by omega) (Lib.hid (by rfl)) b0 (by omega) hc W hW)
theorem ask_tell (tk : Nat → Int) (t : Int) (ht : Hid (tk 1 = t)) (t0 : 0 ≤ t) (t1 : t ≤ 100000) (h : MS w L X mT2 mV mP2 tk) : Calls Tryz.prog 44 #[.agg #[.int .i64 7, .int .i64 1, .int .i64 0, .int .i64 0, .int .u32 0], .int .u32 0, .int .u32 0, .pointer (some ⟨sb, 0, none⟩)] w fun e w' => e = .returned (Value.agg #[.int .u32 0, .int .u32 t, .int .u32 0, .int .u32 0, .int .i64 0, .int .i64 0, .int .i64 0, .int .i64 0, .int .u32 0, .int .i64 0, .int .i64 0, .int .i64 0, .int .i64 0, .int .u32 0, .int .i64 0, .int .i64 0, .int .i64 0, .int .i64 0, .int .u32 0]) ∧ MS w' L X mT2 mV mP2 tk ∧ PBelow w w' X.tR X.tG :=
  ask_of (nt := [.int .u32 0, .int .u32 t, .int .u32 0, .int .u32 0, .int .i64 0, .int .i64 0, .int .i64 0, .int .i64 0, .int .u32 0, .int .i64 0, .int .i64 0, .int .i64 0, .int .i64 0, .int .u32 0, .int .i64 0, .int .i64 0, .int .i64 0, .int .i64 0, .int .u32 0]) rfl (by simp [Value.oneCell']) 1 0 0 0 (Lib.hid (by decide)) (Lib.hid (by rw [h.n8]; rfl)) vs vr sb w hE hs h (fun cs hc W hW => cmeter_0 1 (Lib.hid rfl) (by decide) (Lib.hid (by rfl)) t t0 (by omega) ht hc W hW)
theorem ask_no (tk : Nat → Int) (h : MS w L X mT2 mV mP2 tk) : Calls Tryz.prog 44 #[.agg #[.int .i64 7, .int .i64 0, .int .i64 0, .int .i64 0, .int .u32 0], .int .u32 1, .int .u32 2147483648, .pointer (some ⟨sb, 0, none⟩)] w fun e w' => e = .returned (Value.agg #[.int .u32 3, .int .u32 0, .int .u32 0, .int .u32 0, .int .i64 0, .int .i64 0, .int .i64 0, .int .i64 0, .int .u32 0, .int .i64 0, .int .i64 0, .int .i64 0, .int .i64 0, .int .u32 0, .int .i64 0, .int .i64 0, .int .i64 0, .int .i64 0, .int .u32 0]) ∧ MS w' L X mT2 mV mP2 tk ∧ PBelow w w' X.tR X.tG :=
  ask_of (nt := [.int .u32 3, .int .u32 0, .int .u32 0, .int .u32 0, .int .i64 0, .int .i64 0, .int .i64 0, .int .i64 0, .int .u32 0, .int .i64 0, .int .i64 0, .int .i64 0, .int .i64 0, .int .u32 0, .int .i64 0, .int .i64 0, .int .i64 0, .int .i64 0, .int .u32 0]) rfl (by simp [Value.oneCell']) 0 0 1 2147483648 (Lib.hid (by decide)) (Lib.hid (by rw [h.n8]; rfl)) vs vr sb w hE hs h (fun cs hc W hW => cmeter_1no (by decide) hc W hW)
end
theorem ms_charge {L : BLoc} {X : SLoc} (w : World) (A B M : Int) (u0 : 0 ≤ A ∧ A ≤ 999) (u1 : 0 ≤ B ∧ B ≤ 999) (u2 : 0 ≤ M ∧ M ≤ 59) (t : Bool) (ht : Hid ((decide (M ≤ A + B) && decide (M ≤ 50)) = t)) (h : MS w L X mT2 mV mP2 (mK3 A B)) :
    Calls Tryz.prog 45 #[.pointer (some ⟨X.tP, 0, none⟩), .int .i64 1, .int .i64 M] w fun e w' => ∃ r tk', e = .returned (.tuple #[.int .i64 r, .bool t]) ∧ MS w' L X mT2 mV mP2 tk' ∧ Hid (tk' 1 = (if t = true then A + B - M else A + B)) ∧ PBelow w w' X.tR X.tG := by
  have e0 : mK3 A B 0 = 50 := rfl
  have e1 : mK3 A B 1 = A + B := rfl
  have hn : 1 < X.tn := by rw [h.n8]; decide
  have ht' := ht.out
  cases t
  · by_cases hm : M ≤ A + B
    · have hm2 : 50 < M := by
        rcases Int.lt_or_le 50 M with h1 | h1
        · exact h1
        · simp [hm, h1] at ht'
      refine (mcharge_few M u2.1 (by omega) 1 0 hn (by decide) (Lib.hid mT2_all) (Lib.hid mP2_all) (Lib.hid (fun q h1 h2 => by obtain rfl : q = 1 := (by omega); rw [e1]; exact hm)) (Lib.hid (by rw [e0]; exact hm2)) w h.t).mono (fun e w' h9 => ⟨0, mK3 A B, h9.1, h.below h9.2, Lib.hid (by rw [e1]; rfl), PBelow.of_below h9.2⟩)
    · refine (mcharge_few M u2.1 (by omega) 1 1 hn (by decide) (Lib.hid mT2_all) (Lib.hid mP2_all) (Lib.hid (fun q h1 h2 => by omega)) (Lib.hid (by rw [e1]; omega)) w h.t).mono (fun e w' h9 => ⟨1, mK3 A B, h9.1, h.below h9.2, Lib.hid (by rw [e1]; rfl), PBelow.of_below h9.2⟩)
  · have hm : M ≤ A + B ∧ M ≤ 50 := by simpa using ht'
    refine (mcharge_all M u2.1 (by omega) 1 hn (Lib.hid mT2_all) (Lib.hid mP2_all) (Lib.hid (fun q hq => by
      obtain rfl | rfl : q = 0 ∨ q = 1 := by omega
      · rw [e0]; omega
      · rw [e1]; omega)) w h.t).mono (fun e w' h9 => ⟨0, _, h9.1, h.turn h9.2.1 h9.2.2, Lib.hid ?_, h9.2.2⟩)
    have : decx M (mK3 A B) 1 (1 + 1) 1 = mK3 A B 1 - M := by simp [decx]
    rw [this, e1]
    rfl
/-- The law's own world: its system, its key, what was answered. -/
structure LW (vs vr : Value) (w0 w : World) (L : BLoc) (X : SLoc) (sb kB xB : Nat) (tk : Nat → Int) : Prop where
  ms : MS w L X mT2 mV mP2 tk
  bel : Below w0.heap.size w0 w
  er : ErrsAt vs vr w0
  sc : w.cell? ⟨sb, 0, none⟩ = some (.pointer (some ⟨X.s, 0, none⟩))
  ky : KeyC w kB 7 0 0 0 0
  nx : w.rangeAt xB 0 noteX
  lt : sb < w.heap.size ∧ kB < w.heap.size ∧ xB < w.heap.size
  ne : sb ≠ X.tR ∧ sb ≠ X.tG ∧ kB ≠ X.tR ∧ kB ≠ X.tG ∧ xB ≠ X.tR ∧ xB ≠ X.tG
  lo : w0.heap.size ≤ X.tR ∧ w0.heap.size ≤ X.tG
theorem key_same {w w' : World} {b : Nat} {k0 k1 k2 k3 k4 : Int} (h : KeyC w b k0 k1 k2 k3 k4) (hs : w.heap.size ≤ w'.heap.size) (hb : w'.heap[b]? = w.heap[b]?) : KeyC w' b k0 k1 k2 k3 k4 :=
  ⟨Nat.lt_of_lt_of_le h.lt hs, (World.cell?_of_block (a := ⟨b, 0, none⟩) hb).trans h.c0, (World.cell?_of_block (a := ⟨b, 1, none⟩) hb).trans h.c1, (World.cell?_of_block (a := ⟨b, 2, none⟩) hb).trans h.c2, (World.cell?_of_block (a := ⟨b, 3, none⟩) hb).trans h.c3, (World.cell?_of_block (a := ⟨b, 4, none⟩) hb).trans h.c4, fun j => (World.frozen?_of_block (a := ⟨b, j, none⟩) hb).trans (h.fr j)⟩
section
variable {vs vr : Value} {w0 w w' : World} {L : BLoc} {X : SLoc} {sb kB xB : Nat} {tk tk' : Nat → Int}
theorem LW.pb (h : LW vs vr w0 w L X sb kB xB tk) (hm : MS w' L X mT2 mV mP2 tk') (hp : PBelow w w' X.tR X.tG) : LW vs vr w0 w' L X sb kB xB tk' := by
  have hb : Below w0.heap.size w0 w' := h.bel.trans (hp.below h.lo.1 h.lo.2 h.bel.size)
  have hz := hp.2.2.2.1
  have g := hp.2.2.2.2
  exact ⟨hm, hb, h.er, (World.cell?_of_block (a := ⟨sb, 0, none⟩) (g sb h.lt.1 h.ne.1 h.ne.2.1)).trans h.sc, key_same h.ky hz (g kB h.lt.2.1 h.ne.2.2.1 h.ne.2.2.2.1), range_same h.nx (g xB h.lt.2.2 h.ne.2.2.2.2.1 h.ne.2.2.2.2.2), ⟨Nat.lt_of_lt_of_le h.lt.1 hz, Nat.lt_of_lt_of_le h.lt.2.1 hz, Nat.lt_of_lt_of_le h.lt.2.2 hz⟩, h.ne, h.lo⟩
theorem LW.below (h : LW vs vr w0 w L X sb kB xB tk) (hb : Below w.heap.size w w') : LW vs vr w0 w' L X sb kB xB tk := h.pb (h.ms.below hb) (PBelow.of_below hb)
end
set_option maxRecDepth 100000 in
set_option maxHeartbeats 8000000 in
theorem meters_walk (a0 a1 a2 : Int) (A B M : Int) (hA : Hid (a0.tmod 1000 = A)) (hB : Hid (a1.tmod 1000 = B)) (hM : Hid (a2.tmod 60 = M)) (u0 : 0 ≤ A ∧ A ≤ 999) (u1 : 0 ≤ B ∧ B ≤ 999) (u2 : 0 ≤ M ∧ M ≤ 59) (vs vr : Value) (w : World) (hE : ErrsAt vs vr w) :
    Calls Tryz.prog 9 #[.int .u32 a0, .int .u32 a1, .int .u32 a2] w fun e w' => e = .returned (.bool true) ∧ Below w.heap.size w w' := by
  have HE := Lib.hid hE
  clear hE
  go_enter Tryz.func9, Tryz.ntmps9
  go_upto_region 5 with (first
    | (go_at_call 27; (with_reducible refine (first22_is vs vr _ HE.out).mono ?_); rintro e w1 ⟨rfl, hb⟩; have HB1 := Lib.hid hb; clear hb)
    | (go_at_call 11; (with_reducible refine (script_ok _).mono ?_); rintro e w2 ⟨L, X, x, rfl, hs, hn, hb⟩; have HSy := Lib.hid hs; have HN := Lib.hid hn.out; have HB2 := Lib.hid (HB1.out.trans (hb.mono HB1.out.size)); clear hs hn hb))
  have HM2 := Lib.hid (HSy.out.ms HN.out.2.2.2.1)
  generalize hg : World.alloc w2 _ = w3
  obtain ⟨sb, hsb⟩ : ∃ sb, sb = w2.heap.size := ⟨_, rfl⟩
  have hlo : Hid (w.heap.size ≤ X.tR ∧ w.heap.size ≤ X.tG) := Lib.hid ⟨Nat.le_trans HB1.out.size (Nat.le_trans HSy.out.lo.2.2.2.2 HSy.out.t.ar.lt.1), Nat.le_trans HB1.out.size (Nat.le_trans HSy.out.lo.2.2.2.2 (HSy.out.t.row.lt X.tG rfl).1)⟩
  have HN8 : Hid (X.tn = 8) := Lib.hid HN.out.2.2.2.1
  have H3 : Hid (MS w3 L X (fun _ => false) (fun _ => 0) (fun _ => 0) (fun _ => 0) ∧ Below w.heap.size w w3 ∧ w3.cell? ⟨sb, 0, none⟩ = some (.pointer (some ⟨X.s, 0, none⟩)) ∧ MLt sb X ∧ sb < w3.heap.size ∧ w.heap.size ≤ sb) := Lib.hid (by rw [← hg, hsb]; exact ⟨HM2.out.below ((Below.refl _ _).alloc (Nat.le_refl _) _), HB2.out.alloc HB2.out.size _, by simp, HM2.out.lts, by simp, HB2.out.size⟩)
  rw [← hsb]
  clear hg hsb
  have hlo9 : Hid (w.heap.size ≤ w3.heap.size) := Lib.hid H3.out.2.1.size
  have sc := H3.out.2.2.1
  have sp := H3.out.1.b.c2
  go_upto_region 8 with (first
    | (go_at_call 19; (with_reducible refine (ms_make _ H3.out.1).mono ?_); rintro e w4 ⟨rfl, ht, hb⟩; have H4 : Hid (MS w4 L X mT1 mV mP1 mK1 ∧ PBelow w3 w4 X.tR X.tG) := (Lib.hid ⟨ht, hb⟩); clear ht hb sc sp))
  have hne : sb ≠ X.tR ∧ sb ≠ X.tG := by have := H3.out.2.2.2.1.R; have := H3.out.2.2.2.1.G; omega
  have sc := (World.cell?_of_block (a := ⟨sb, 0, none⟩) (H4.out.2.2.2.2.2 sb H3.out.2.2.2.2.1 hne.1 hne.2)).trans H3.out.2.2.1
  go_upto_region 9 with (first
    | (go_at_call 16; (with_reducible refine (ms_key _ H4.out.1).mono ?_); rintro e w5 ⟨rfl, hb⟩; have HB5 := Lib.hid hb; clear hb))
  go_upto_region 12 with fail
  rw [hA.out, hB.out]
  generalize hg : World.alloc w5 _ = w6
  obtain ⟨kB, hkB⟩ : ∃ kB, kB = w5.heap.size := ⟨_, rfl⟩
  have hs5 : w3.heap.size ≤ w5.heap.size := Nat.le_trans H4.out.2.2.2.2.1 HB5.out.size
  have H6 : Hid (MS w6 L X mT1 mV mP1 mK1 ∧ Below w.heap.size w w6 ∧ ErrsAt vs vr w6 ∧ w6.cell? ⟨sb, 0, none⟩ = some (.pointer (some ⟨X.s, 0, none⟩)) ∧ KeyC w6 kB 7 0 0 0 0 ∧ sb < kB ∧ kB < w6.heap.size ∧ X.tR < kB ∧ X.tG < kB) := Lib.hid (by
    have hb6 : Below w4.heap.size w4 w6 := by rw [← hg]; exact HB5.out.alloc HB5.out.size _
    have hbb : Below w.heap.size w w6 := (H3.out.2.1.trans (H4.out.2.below hlo.out.1 hlo.out.2 hlo9.out)).trans (hb6.mono (Nat.le_trans hlo9.out H4.out.2.2.2.2.1))
    refine ⟨H4.out.1.below hb6, hbb, HE.out.below hbb, (hb6.cell (p := ⟨sb, 0, none⟩) (Nat.lt_of_lt_of_le H3.out.2.2.2.2.1 H4.out.2.2.2.2.1)).trans sc, ?_, ?_, ?_, ?_, ?_⟩
    · rw [← hg, hkB]; exact KeyC.new _ _ _ _ _ _ _
    · rw [hkB]; exact Nat.lt_of_lt_of_le H3.out.2.2.2.2.1 hs5
    · rw [← hg, hkB]; simp
    · rw [hkB]; exact Nat.lt_of_lt_of_le (Nat.lt_trans H3.out.2.2.2.1.R H3.out.2.2.2.2.1) hs5
    · rw [hkB]; exact Nat.lt_of_lt_of_le (Nat.lt_trans H3.out.2.2.2.1.G H3.out.2.2.2.2.1) hs5)
  rw [← hkB]
  clear hg hkB sc
  obtain ⟨q0, q1, q2, q3, q4⟩ := ofive H6.out.2.2.2.2.1
  have HX := Lib.hid noteX_is
  have hsz : noteX.toArray.size = 19 := rfl
  go_upto_region 13 with (first
    | (go_at_call 44; (with_reducible refine (ask_make vs vr sb _ H6.out.2.2.1 H6.out.2.2.2.1 A u0.1 (by omega) H6.out.1).mono ?_); rintro e w7 ⟨rfl, hm, hb⟩; have H7 := Lib.hid hm; have HB7 := Lib.hid hb; clear hm hb)
    | (refine wpList_store_mid (by rfl) _ _ _ (by rfl) w7.heap.size 0 noteX.toArray (by rfl) (by rfl) (by rw [hsz]; exact nthere_new _ _ 19 (by rfl) _) (by rw [hsz]; exact infoNote) (all_one HX.out.one) ?_))
  generalize hg : World.setCells _ w7.heap.size 0 _ = w8
  obtain ⟨xB, hxB⟩ : ∃ xB, xB = w7.heap.size := ⟨_, rfl⟩
  have H8 : Hid (LW vs vr w w8 L X sb kB xB (mK2 A)) := Lib.hid (by
    have hb8 : Below w7.heap.size w7 w8 := by rw [← hg]; exact nbelow_cells ((Below.refl w7.heap.size w7).alloc (Nat.le_refl _) _) (Nat.le_refl _) _ _
    have hz := HB7.out.2.2.2.1
    have g := HB7.out.2.2.2.2
    have n1 := H6.out.2.2.2.2.2.2.2.1
    have n2 := H6.out.2.2.2.2.2.2.2.2
    have k1 := H6.out.2.2.2.2.2.2.1
    have k2 := H6.out.2.2.2.2.2.1
    have hx : w8.rangeAt xB 0 noteX := by rw [← hg, hxB]; exact World.rangeAt_setCells_same _ w7.heap.size 0 noteX (by rw [HX.out.len]; exact nthere_new _ _ 19 (by rfl) _)
    refine ⟨H7.out.below hb8, (H6.out.2.1.trans (HB7.out.below hlo.out.1 hlo.out.2 H6.out.2.1.size)).trans (hb8.mono (Nat.le_trans H6.out.2.1.size hz)), HE.out, (hb8.cell (p := ⟨sb, 0, none⟩) (Nat.lt_of_lt_of_le (Nat.lt_trans k2 k1) hz)).trans ((World.cell?_of_block (a := ⟨sb, 0, none⟩) (g sb (Nat.lt_trans k2 k1) hne.1 hne.2)).trans H6.out.2.2.2.1), (key_same H6.out.2.2.2.2.1 hz (g kB k1 (by omega) (by omega))).below hb8, hx, ⟨Nat.lt_of_lt_of_le (Nat.lt_trans k2 k1) (Nat.le_trans hz hb8.size), Nat.lt_of_lt_of_le k1 (Nat.le_trans hz hb8.size), cell_lt (CallC.cell hx 0 _ rfl)⟩, ⟨hne.1, hne.2, by omega, by omega, by omega, by omega⟩, hlo.out⟩)
  rw [← hxB]
  clear hg hxB q0 q1 q2 q3 q4
  have x0 := CallC.cell (H8).out.nx 0 _ HX.out.c0; have x4 := CallC.cell (H8).out.nx 4 _ HX.out.c4; have x5 := CallC.cell (H8).out.nx 5 _ HX.out.c5; have x6 := CallC.cell (H8).out.nx 6 _ HX.out.c6; have x7 := CallC.cell (H8).out.nx 7 _ HX.out.c7; have x8 := CallC.cell (H8).out.nx 8 _ HX.out.c8
  have d1 : (A + B) % 4294967296 = A + B := by omega
  have HK3 : Hid (mK3 A B 1 = A + B) := Lib.hid (by rfl)
  have hab : 0 ≤ A + B ∧ A + B ≤ 100000 := by omega
  have g0 : ∀ W, (Instr.field 64 (Value.agg #[.int .u32 0, .int .u32 0, .int .u32 0, .int .u32 0, .int .i64 0, .int .i64 0, .int .i64 0, .int .i64 0, .int .u32 0, .int .i64 0, .int .i64 0, .int .i64 0, .int .i64 0, .int .u32 0, .int .i64 0, .int .i64 0, .int .i64 0, .int .i64 0, .int .u32 0]) 0).run Tryz.prog W = .ok (.int .u32 0) W := by intro W; kernel_rfl
  have g3 : ∀ W, (Instr.field 64 (Value.agg #[.int .u32 3, .int .u32 0, .int .u32 0, .int .u32 0, .int .i64 0, .int .i64 0, .int .i64 0, .int .i64 0, .int .u32 0, .int .i64 0, .int .i64 0, .int .i64 0, .int .i64 0, .int .u32 0, .int .i64 0, .int .i64 0, .int .i64 0, .int .i64 0, .int .u32 0]) 0).run Tryz.prog W = .ok (.int .u32 3) W := by intro W; kernel_rfl
  have g4 : ∀ t W, (Instr.index 61 (.agg #[.int .u32 t, .int .u32 0, .int .u32 0]) (.int .i64 0)).run Tryz.prog W = .ok (.int .u32 t) W := by intro t W; kernel_rfl
  have g1 : ∀ t W, (Instr.field 64 (Value.agg #[.int .u32 0, .int .u32 t, .int .u32 0, .int .u32 0, .int .i64 0, .int .i64 0, .int .i64 0, .int .i64 0, .int .u32 0, .int .i64 0, .int .i64 0, .int .i64 0, .int .i64 0, .int .u32 0, .int .i64 0, .int .i64 0, .int .i64 0, .int .i64 0, .int .u32 0]) 1).run Tryz.prog W = .ok (.agg #[.int .u32 t, .int .u32 0, .int .u32 0]) W := by intro t W; kernel_rfl
  go_upto_region 15 with (first
    | (go_at_call 44; (with_reducible refine (ask_add vs vr sb _ (H8.out.er.below H8.out.bel) H8.out.sc A B u0.1 (by omega) u1.1 (by omega) H8.out.ms).mono ?_); rintro e w9 ⟨rfl, hm, hb⟩; have H9 := Lib.hid (H8.out.pb hm hb); clear hm hb x0 x4 x5 x6 x7 x8; have x0 := CallC.cell (H9).out.nx 0 _ HX.out.c0; have x4 := CallC.cell (H9).out.nx 4 _ HX.out.c4; have x5 := CallC.cell (H9).out.nx 5 _ HX.out.c5; have x6 := CallC.cell (H9).out.nx 6 _ HX.out.c6; have x7 := CallC.cell (H9).out.nx 7 _ HX.out.c7; have x8 := CallC.cell (H9).out.nx 8 _ HX.out.c8)
    | (go_at_call 44; (with_reducible refine (ask_tell vs vr sb _ (H9.out.er.below H9.out.bel) H9.out.sc (mK3 A B) (A + B) HK3 hab.1 hab.2 H9.out.ms).mono ?_); rintro e w10 ⟨rfl, hm, hb⟩; have H10 := Lib.hid (H9.out.pb hm hb); clear hm hb x0 x4 x5 x6 x7 x8; have x0 := CallC.cell (H10).out.nx 0 _ HX.out.c0; have x4 := CallC.cell (H10).out.nx 4 _ HX.out.c4; have x5 := CallC.cell (H10).out.nx 5 _ HX.out.c5; have x6 := CallC.cell (H10).out.nx 6 _ HX.out.c6; have x7 := CallC.cell (H10).out.nx 7 _ HX.out.c7; have x8 := CallC.cell (H10).out.nx 8 _ HX.out.c8))
  go_upto_region 16 with fail
  rw [hM.out]
  have hwM : IntKind.i64.wrap M = M := by rw [IntKind.wrap_i64]; omega
  obtain ⟨t, HT⟩ : ∃ t, Hid ((decide (M ≤ A + B) && decide (M ≤ 50)) = t) := ⟨_, Lib.hid rfl⟩
  obtain ⟨wD, hwD⟩ : ∃ wD, wD = w10.drew := ⟨_, rfl⟩
  have HD : Hid (LW vs vr w wD L X sb kB xB (mK3 A B)) := Lib.hid (by rw [hwD]; exact H10.out.below (Below.refl _ _).drew)
  refine wp_region_noPanic ?_
  refine wp_region_held_drew (S := fun w' => World.cell? w' ⟨sb, 0, none⟩ = some (.pointer (some ⟨X.s, 0, none⟩)) ∧ World.cell? w' ⟨X.s, 2, none⟩ = some (.pointer (some ⟨X.tP, 0, none⟩)) ∧ World.cell? w' ⟨xB, 5, none⟩ = some (.int .i64 1)) (by kernel_rfl) (by rw [← hwD]; exact ⟨HD.out.sc, HD.out.ms.b.c2, CallC.cell HD.out.nx 5 _ HX.out.c5⟩) (fun hHeld => ?_)
  rw [← hwD] at hHeld ⊢
  clear hwD
  refine wpAnyH_take (i := 0) (v := ?_) (by rfl) (by kernel_rfl) (by kernel_rfl) (by kernel_rfl) (fun _ _ _ h => h) (Or.inl ⟨by kernel_rfl, ?_⟩) (by assumption) ?_; rotate_left 1; (focus (intro w hSw; (try dsimp only at hSw); simp only [List.getElem_toArray, List.getElem_cons_succ, List.getElem_cons_zero]; all_goals go_simp; all_goals (try with_reducible rfl))); (try simp only [Act.put, List.getElem_toArray, List.getElem_cons_succ, List.getElem_cons_zero, List.setIfInBounds_toArray, List.set_cons_zero, List.set_cons_succ])
  refine wpAnyH_take (i := 1) (v := ?_) (by rfl) (by kernel_rfl) (by kernel_rfl) (by kernel_rfl) (fun _ _ _ h => h) (Or.inl ⟨by kernel_rfl, ?_⟩) (by assumption) ?_; rotate_left 1; (focus (intro w hSw; (try dsimp only at hSw); simp only [List.getElem_toArray, List.getElem_cons_succ, List.getElem_cons_zero]; all_goals go_simp; all_goals (try with_reducible rfl))); (try simp only [Act.put, List.getElem_toArray, List.getElem_cons_succ, List.getElem_cons_zero, List.setIfInBounds_toArray, List.set_cons_zero, List.set_cons_succ])
  refine wpAnyH_take (i := 2) (v := ?_) (by rfl) (by kernel_rfl) (by kernel_rfl) (by kernel_rfl) (fun _ _ _ h => h) (Or.inl ⟨by kernel_rfl, ?_⟩) (by assumption) ?_; rotate_left 1; (focus (intro w hSw; (try dsimp only at hSw); simp only [List.getElem_toArray, List.getElem_cons_succ, List.getElem_cons_zero]; all_goals go_simp; all_goals (try with_reducible rfl))); (try simp only [Act.put, List.getElem_toArray, List.getElem_cons_succ, List.getElem_cons_zero, List.setIfInBounds_toArray, List.set_cons_zero, List.set_cons_succ])
  refine wpAnyH_take (i := 3) (v := ?_) (by rfl) (by kernel_rfl) (by kernel_rfl) (by kernel_rfl) (fun _ _ _ h => h) (Or.inl ⟨by kernel_rfl, ?_⟩) (by assumption) ?_; rotate_left 1; (focus (intro w hSw; (try dsimp only at hSw); simp only [List.getElem_toArray, List.getElem_cons_succ, List.getElem_cons_zero]; all_goals go_simp; all_goals (try with_reducible rfl))); (try simp only [Act.put, List.getElem_toArray, List.getElem_cons_succ, List.getElem_cons_zero, List.setIfInBounds_toArray, List.set_cons_zero, List.set_cons_succ])
  refine wpAnyH_take (i := 4) (v := ?_) (by rfl) (by kernel_rfl) (by kernel_rfl) (by kernel_rfl) (fun _ _ _ h => h) (Or.inl ⟨by kernel_rfl, ?_⟩) (by assumption) ?_; rotate_left 1; (focus (intro w hSw; (try dsimp only at hSw); simp only [List.getElem_toArray, List.getElem_cons_succ, List.getElem_cons_zero]; all_goals go_simp; all_goals (try with_reducible rfl))); (try simp only [Act.put, List.getElem_toArray, List.getElem_cons_succ, List.getElem_cons_zero, List.setIfInBounds_toArray, List.set_cons_zero, List.set_cons_succ])
  refine wpAnyH_take (i := 5) (v := ?_) (by rfl) (by kernel_rfl) (by kernel_rfl) (by kernel_rfl) (fun _ _ _ h => h) (Or.inl ⟨by kernel_rfl, ?_⟩) (by assumption) ?_; rotate_left 1; (focus (intro w hSw; (try dsimp only at hSw); simp only [List.getElem_toArray, List.getElem_cons_succ, List.getElem_cons_zero]; all_goals go_simp; all_goals (try with_reducible rfl))); (try simp only [Act.put, List.getElem_toArray, List.getElem_cons_succ, List.getElem_cons_zero, List.setIfInBounds_toArray, List.set_cons_zero, List.set_cons_succ])
  refine wpAnyH_take (i := 6) (v := ?_) (by rfl) (by kernel_rfl) (by kernel_rfl) (by kernel_rfl) (fun _ _ _ h => h) (Or.inl ⟨by kernel_rfl, ?_⟩) (by assumption) ?_; rotate_left 1; (focus (intro w hSw; (try dsimp only at hSw); simp only [List.getElem_toArray, List.getElem_cons_succ, List.getElem_cons_zero]; all_goals go_simp; all_goals (try with_reducible rfl))); (try simp only [Act.put, List.getElem_toArray, List.getElem_cons_succ, List.getElem_cons_zero, List.setIfInBounds_toArray, List.set_cons_zero, List.set_cons_succ])
  refine wpAnyH_take (i := 7) (v := ?_) (by rfl) (by kernel_rfl) (by kernel_rfl) (by kernel_rfl) (fun _ _ _ h => h) (Or.inl ⟨by kernel_rfl, ?_⟩) (by assumption) ?_; rotate_left 1; (focus (intro w hSw; (try dsimp only at hSw); simp only [List.getElem_toArray, List.getElem_cons_succ, List.getElem_cons_zero]; all_goals go_simp; all_goals (try with_reducible rfl))); (try simp only [Act.put, List.getElem_toArray, List.getElem_cons_succ, List.getElem_cons_zero, List.setIfInBounds_toArray, List.set_cons_zero, List.set_cons_succ])
  refine wpAnyH_take (i := 8) (v := ?_) (by rfl) (by kernel_rfl) (by kernel_rfl) (by kernel_rfl) (fun _ _ _ h => h) (Or.inl ⟨by kernel_rfl, ?_⟩) (by assumption) ?_; rotate_left 1; (focus (intro w hSw; (try dsimp only at hSw); simp only [List.getElem_toArray, List.getElem_cons_succ, List.getElem_cons_zero]; all_goals go_simp; all_goals (try with_reducible rfl))); (try simp only [Act.put, List.getElem_toArray, List.getElem_cons_succ, List.getElem_cons_zero, List.setIfInBounds_toArray, List.set_cons_zero, List.set_cons_succ])
  refine wpAnyH_take (i := 9) (v := ?_) (by rfl) (by kernel_rfl) (by kernel_rfl) (by kernel_rfl) (fun _ _ _ h => h) (Or.inl ⟨by kernel_rfl, ?_⟩) (by assumption) ?_; rotate_left 1; (focus (intro w hSw; (try dsimp only at hSw); simp only [List.getElem_toArray, List.getElem_cons_succ, List.getElem_cons_zero]; all_goals go_simp; all_goals (try with_reducible rfl))); (try simp only [Act.put, List.getElem_toArray, List.getElem_cons_succ, List.getElem_cons_zero, List.setIfInBounds_toArray, List.set_cons_zero, List.set_cons_succ])
  refine wpAnyH_ready (rs := [10]) (by kernel_rfl) (by simp) ?_; refine AllReadyH.cons (by rfl) (fun K hK => ?_) AllReadyH.nil; rw [if_pos (by kernel_rfl)]; simp only [List.getElem_toArray, List.getElem_cons_succ, List.getElem_cons_zero]
  go_wp2_with (first | (go_at_call 45; (with_reducible refine (ms_charge _ A B M u0 u1 u2 t HT HD.out.ms).mono ?_); rintro e w11 ⟨r, tk', rfl, hm, hk, hb⟩; have H11 : Hid (LW vs vr w w11 L X sb kB xB tk') := (Lib.hid (HD.out.pb hm hb)); have HK11 := Lib.hid hk.out; clear hm hk hb))
  refine hK.out _ _ ⟨H11.out.sc, H11.out.ms.b.c2, CallC.cell H11.out.nx 5 _ HX.out.c5⟩ (fun hHeld => ?_)
  clear hK K
  (try simp only [Act.put, List.getElem_toArray, List.getElem_cons_succ, List.getElem_cons_zero, List.setIfInBounds_toArray, List.set_cons_zero, List.set_cons_succ])
  refine wpAnyH_take (i := 11) (v := ?_) (by rfl) (by kernel_rfl) (by kernel_rfl) (by kernel_rfl) (fun _ _ _ h => h) (Or.inl ⟨by kernel_rfl, ?_⟩) (by assumption) ?_; rotate_left 1; (focus (intro w hSw; (try dsimp only at hSw); simp only [List.getElem_toArray, List.getElem_cons_succ, List.getElem_cons_zero]; all_goals go_simp; all_goals (try with_reducible rfl))); (try simp only [Act.put, List.getElem_toArray, List.getElem_cons_succ, List.getElem_cons_zero, List.setIfInBounds_toArray, List.set_cons_zero, List.set_cons_succ])
  refine wpAnyH_take (i := 12) (v := ?_) (by rfl) (by kernel_rfl) (by kernel_rfl) (by kernel_rfl) (fun _ _ _ h => h) (Or.inl ⟨by kernel_rfl, ?_⟩) (by assumption) ?_; rotate_left 1; (focus (intro w hSw; (try dsimp only at hSw); simp only [List.getElem_toArray, List.getElem_cons_succ, List.getElem_cons_zero]; all_goals go_simp; all_goals (try with_reducible rfl))); (try simp only [Act.put, List.getElem_toArray, List.getElem_cons_succ, List.getElem_cons_zero, List.setIfInBounds_toArray, List.set_cons_zero, List.set_cons_succ])
  refine wpAnyH_take (i := 13) (v := ?_) (by rfl) (by kernel_rfl) (by kernel_rfl) (by kernel_rfl) (fun _ _ _ h => h) (Or.inl ⟨by kernel_rfl, ?_⟩) (by assumption) ?_; rotate_left 1; (focus (intro w hSw; (try dsimp only at hSw); simp only [List.getElem_toArray, List.getElem_cons_succ, List.getElem_cons_zero]; all_goals go_simp; all_goals (try with_reducible rfl))); (try simp only [Act.put, List.getElem_toArray, List.getElem_cons_succ, List.getElem_cons_zero, List.setIfInBounds_toArray, List.set_cons_zero, List.set_cons_succ])
  refine wpAnyH_take (i := 14) (v := ?_) (by rfl) (by kernel_rfl) (by kernel_rfl) (by kernel_rfl) (fun _ _ _ h => h) (Or.inl ⟨by kernel_rfl, ?_⟩) (by assumption) ?_; rotate_left 1; (focus (intro w hSw; (try dsimp only at hSw); simp only [List.getElem_toArray, List.getElem_cons_succ, List.getElem_cons_zero]; all_goals go_simp; all_goals (try with_reducible rfl))); (try simp only [Act.put, List.getElem_toArray, List.getElem_cons_succ, List.getElem_cons_zero, List.setIfInBounds_toArray, List.set_cons_zero, List.set_cons_succ])
  refine wpAnyH_take (i := 15) (v := ?_) (by rfl) (by kernel_rfl) (by kernel_rfl) (by kernel_rfl) (fun _ _ _ h => h) (Or.inl ⟨by kernel_rfl, ?_⟩) (by assumption) ?_; rotate_left 1; (focus (intro w hSw; (try dsimp only at hSw); simp only [List.getElem_toArray, List.getElem_cons_succ, List.getElem_cons_zero]; all_goals go_simp; all_goals (try with_reducible rfl))); (try simp only [Act.put, List.getElem_toArray, List.getElem_cons_succ, List.getElem_cons_zero, List.setIfInBounds_toArray, List.set_cons_zero, List.set_cons_succ])
  refine wpAnyH_done (by kernel_rfl) ?_ _
  refine NoPanic.normal ?_
  clear x0 x4 x5 x6 x7 x8
  clear hwM d1
  have x0 := CallC.cell (H11).out.nx 0 _ HX.out.c0; have x4 := CallC.cell (H11).out.nx 4 _ HX.out.c4; have x5 := CallC.cell (H11).out.nx 5 _ HX.out.c5; have x6 := CallC.cell (H11).out.nx 6 _ HX.out.c6; have x7 := CallC.cell (H11).out.nx 7 _ HX.out.c7; have x8 := CallC.cell (H11).out.nx 8 _ HX.out.c8
  have d1 : (A + B) % 4294967296 = A + B := by omega
  have HER := Lib.hid (H11.out.er.below H11.out.bel)
  have HNu := Lib.hid (number_is 1 2 1 (by decide) (by decide) (by decide) (by decide) (Lib.hid (by decide)))
  by_cases c1 : M ≤ A + B
  · have e1 : decide (M ≤ A + B) = true := decide_eq_true c1
    by_cases c2 : M ≤ 50
    · have e2 : decide (M ≤ 50) = true := decide_eq_true c2
      obtain rfl : t = true := by have := HT.out; rw [e1, e2] at this; exact this.symm
      have d2 : (A + B - M) % 4294967296 = A + B - M := by omega
      have HKt : Hid (tk' 1 = A + B - M) := Lib.hid HK11.out
      have hbd : 0 ≤ A + B - M ∧ A + B - M ≤ 100000 := by omega
      clear c1 c2 hab u0 u1 u2 HK11
      go_wp2_with (first | (go_at_call 44; (with_reducible refine (ask_tell vs vr sb _ HER.out H11.out.sc tk' (A + B - M) HKt hbd.1 hbd.2 H11.out.ms).mono ?_); rintro e w12 ⟨rfl, hm, hb⟩; have H12 := Lib.hid (H11.out.pb hm hb); clear hm hb; obtain ⟨q0, q1, q2, q3, q4⟩ := ofive H12.out.ky; have HER2 := Lib.hid (H12.out.er.below H12.out.bel)) | (go_at_call 44; (with_reducible refine (ask_no vs vr sb _ HER2.out H12.out.sc tk' H12.out.ms).mono ?_); rintro e w13 ⟨rfl, hm, hb⟩; have H13 := Lib.hid (H12.out.pb hm hb); clear hm hb) | (go_at_call 14; (with_reducible refine (HNu.out _).mono ?_); rintro e w14 ⟨rfl, rfl⟩)); go_ret; exact ⟨rfl, H13.out.bel⟩
    · have e2 : decide (M ≤ 50) = false := decide_eq_false c2
      obtain rfl : t = false := by have := HT.out; rw [e1, e2] at this; exact this.symm
      have HKt : Hid (tk' 1 = A + B) := Lib.hid HK11.out
      have hbd : 0 ≤ A + B ∧ A + B ≤ 100000 := by omega
      clear c1 c2 hab u0 u1 u2 HK11
      go_wp2_with (first | (go_at_call 44; (with_reducible refine (ask_tell vs vr sb _ HER.out H11.out.sc tk' (A + B) HKt hbd.1 hbd.2 H11.out.ms).mono ?_); rintro e w12 ⟨rfl, hm, hb⟩; have H12 := Lib.hid (H11.out.pb hm hb); clear hm hb; obtain ⟨q0, q1, q2, q3, q4⟩ := ofive H12.out.ky; have HER2 := Lib.hid (H12.out.er.below H12.out.bel)) | (go_at_call 44; (with_reducible refine (ask_no vs vr sb _ HER2.out H12.out.sc tk' H12.out.ms).mono ?_); rintro e w13 ⟨rfl, hm, hb⟩; have H13 := Lib.hid (H12.out.pb hm hb); clear hm hb) | (go_at_call 14; (with_reducible refine (HNu.out _).mono ?_); rintro e w14 ⟨rfl, rfl⟩)); go_ret; exact ⟨rfl, H13.out.bel⟩
  · have e1 : decide (M ≤ A + B) = false := decide_eq_false c1
    obtain rfl : t = false := by have := HT.out; rw [e1] at this; exact this.symm
    have HKt : Hid (tk' 1 = A + B) := Lib.hid HK11.out
    have hbd : 0 ≤ A + B ∧ A + B ≤ 100000 := by omega
    clear c1 hab u0 u1 u2 HK11
    go_wp2_with (first | (go_at_call 44; (with_reducible refine (ask_tell vs vr sb _ HER.out H11.out.sc tk' (A + B) HKt hbd.1 hbd.2 H11.out.ms).mono ?_); rintro e w12 ⟨rfl, hm, hb⟩; have H12 := Lib.hid (H11.out.pb hm hb); clear hm hb; obtain ⟨q0, q1, q2, q3, q4⟩ := ofive H12.out.ky; have HER2 := Lib.hid (H12.out.er.below H12.out.bel)) | (go_at_call 44; (with_reducible refine (ask_no vs vr sb _ HER2.out H12.out.sc tk' H12.out.ms).mono ?_); rintro e w13 ⟨rfl, hm, hb⟩; have H13 := Lib.hid (H12.out.pb hm hb); clear hm hb) | (go_at_call 14; (with_reducible refine (HNu.out _).mono ?_); rintro e w14 ⟨rfl, rfl⟩)); go_ret; exact ⟨rfl, H13.out.bel⟩
theorem walk_ObjectMeters (a0 : Int) (a1 : Int) (a2 : Int) (w : World) (w0 : (Lit.int .u32 a0).wf = true) (w1 : (Lit.int .u32 a1).wf = true) (w2 : (Lit.int .u32 a2).wf = true) (hL : laidMetH Tryz.prog Rows.objectMetersRow.laid w) :
    Calls Tryz.prog 9 #[.int .u32 a0, .int .u32 a1, .int .u32 a2] w fun e w' => e = .returned (.bool true) ∧ Below w.heap.size w w' := by
  obtain ⟨vs, vr, hE⟩ := (errs2 hL ⟨_, by repeat (first | exact List.Mem.head _ | apply List.Mem.tail)⟩ ⟨_, by repeat (first | exact List.Mem.head _ | apply List.Mem.tail)⟩)
  clear hL
  have b0 := fit32 w0
  have b1 := fit32 w1
  have b2 := fit32 w2
  have m0 := Int.emod_lt_of_pos a0 (show (0 : Int) < 1000 by decide)
  have m1 := Int.emod_lt_of_pos a1 (show (0 : Int) < 1000 by decide)
  have m2 := Int.emod_lt_of_pos a2 (show (0 : Int) < 60 by decide)
  have n0 := Int.emod_nonneg a0 (show (1000 : Int) ≠ 0 by decide)
  have n1 := Int.emod_nonneg a1 (show (1000 : Int) ≠ 0 by decide)
  have n2 := Int.emod_nonneg a2 (show (60 : Int) ≠ 0 by decide)
  exact meters_walk a0 a1 a2 (a0 % 1000) (a1 % 1000) (a2 % 60) (Lib.hid (Int.tmod_eq_emod_of_nonneg b0.1)) (Lib.hid (Int.tmod_eq_emod_of_nonneg b1.1)) (Lib.hid (Int.tmod_eq_emod_of_nonneg b2.1)) (by omega) (by omega) (by omega) vs vr w hE
end Go.Proofs.YtncopdhhchmpeaaGreatDoor
