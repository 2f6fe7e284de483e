/-
  Ye, Yf, Yg as one.
-/
import Derived.Test.YtncopdhhchmpeaaDoorP11
namespace Go.Proofs.YtncopdhhchmpeaaDoor
open Go.ChangeShapes Go.WideShapes Go.ChangeAt Go.RowKit
set_option linter.unusedVariables false
set_option linter.unusedSimpArgs false
theorem qlen0_is (q : Nat) (w : World) (h : w.cell? ⟨q, 0, none⟩ = some (.slice none 0 0)) : Calls Tryd.prog 9 #[.pointer (some ⟨q, 0, none⟩)] w fun e w' => e = .returned (.int .i64 0) ∧ w = w' := by
  go_enter Tryd.func9, Tryd.ntmps9
  go_wp2_with fail
  go_ret
  exact ⟨rfl, rfl⟩
theorem acap_eq {w : World} {base p B n c m : Nat} {th : Nat → Bool} {vr : Nat → Int} (h : ArAt w base p B n c th vr) (e : n = m) : Calls Tryd.prog 8 #[.pointer (some ⟨p, 0, none⟩)] w fun e w' => e = .returned (.int .i64 (m : Int)) ∧ w = w' := by
  subst e
  exact acap_is w h
/-- A row of six. -/
def Row6 (w : World) (x : Addr) (z : Nat → Int) : Prop := x.block < w.heap.size ∧ ∀ i, i < 6 → w.cell? (x.add i) = some (.int .i64 (z i))
theorem add_blk (x : Addr) (i : Nat) : (x.add i).block = x.block := by unfold Addr.add; split <;> rfl
theorem Row6.below {w w' : World} {x : Addr} {z : Nat → Int} (h : Row6 w x z) (hb : Below w.heap.size w w') : Row6 w' x z :=
  ⟨Nat.lt_of_lt_of_le h.1 hb.size, fun i hi => (hb.cell (p := x.add i) (by rw [add_blk]; exact h.1)).trans (h.2 i hi)⟩
def gB (z : Nat → Int) : Nat → Bool
  | 0 => true
  | k + 1 => gB z k && (decide (1 ≤ z k) && decide (z k ≤ 256))
theorem gB_iff (z : Nat → Int) : ∀ k, gB z k = true ↔ ∀ j, j < k → inR (z j) := by
  intro k
  induction k with
  | zero => exact ⟨fun _ j hj => by omega, fun _ => rfl⟩
  | succ k ih =>
    rw [gB, Bool.and_eq_true, Bool.and_eq_true, ih]
    constructor
    · rintro ⟨h1, h2, h3⟩ j hj
      by_cases e : j = k
      · subst e; exact ⟨of_decide_eq_true h2, of_decide_eq_true h3⟩
      · exact h1 j (by omega)
    · intro h
      exact ⟨fun j hj => h j (by omega), decide_eq_true (h k (by omega)).1, decide_eq_true (h k (by omega)).2⟩
theorem Row6.c6 {w : World} {x : Addr} {z : Nat → Int} (h : Row6 w x z) : (w.cell? x = some (.int .i64 (z 0)) ∧ w.cell? ⟨x.block, x.off + 1, none⟩ = some (.int .i64 (z 1)) ∧ w.cell? ⟨x.block, x.off + 2, none⟩ = some (.int .i64 (z 2)) ∧ w.cell? ⟨x.block, x.off + 3, none⟩ = some (.int .i64 (z 3)) ∧ w.cell? ⟨x.block, x.off + 4, none⟩ = some (.int .i64 (z 4)) ∧ w.cell? ⟨x.block, x.off + 5, none⟩ = some (.int .i64 (z 5))) := ⟨h.2 0 (by decide), h.2 1 (by decide), h.2 2 (by decide), h.2 3 (by decide), h.2 4 (by decide), h.2 5 (by decide)⟩
theorem keep6 {w3 w w' : World} {x : Addr} {z : Nat → Int} (h : Below w3.heap.size w3 w ∧ (w.cell? x = some (.int .i64 (z 0)) ∧ w.cell? ⟨x.block, x.off + 1, none⟩ = some (.int .i64 (z 1)) ∧ w.cell? ⟨x.block, x.off + 2, none⟩ = some (.int .i64 (z 2)) ∧ w.cell? ⟨x.block, x.off + 3, none⟩ = some (.int .i64 (z 3)) ∧ w.cell? ⟨x.block, x.off + 4, none⟩ = some (.int .i64 (z 4)) ∧ w.cell? ⟨x.block, x.off + 5, none⟩ = some (.int .i64 (z 5)))) (hr : Hid (Row6 w3 x z)) (hb : Below w.heap.size w w') : Below w3.heap.size w3 w' ∧ (w'.cell? x = some (.int .i64 (z 0)) ∧ w'.cell? ⟨x.block, x.off + 1, none⟩ = some (.int .i64 (z 1)) ∧ w'.cell? ⟨x.block, x.off + 2, none⟩ = some (.int .i64 (z 2)) ∧ w'.cell? ⟨x.block, x.off + 3, none⟩ = some (.int .i64 (z 3)) ∧ w'.cell? ⟨x.block, x.off + 4, none⟩ = some (.int .i64 (z 4)) ∧ w'.cell? ⟨x.block, x.off + 5, none⟩ = some (.int .i64 (z 5))) :=
  ⟨h.1.trans (hb.mono h.1.size), (hr.out.below (h.1.trans (hb.mono h.1.size))).c6⟩
set_option maxRecDepth 100000 in
set_option maxHeartbeats 16000000 in
theorem sizes_no {A : Nat → Addr} (x : Addr) (cap : Nat) (z : Nat → Int) (w : World) (HR : Hid (Row6 w x z)) (HS : Hid (Sen A w)) (hG : ¬ gB z 6 = true) :
    Calls Tryd.prog 3 #[.slice (some x) 6 cap] w fun e w' => e = .returned (.bool true) ∧ Below w.heap.size w w' := by
  have HNo : Hid (¬ ((inR (z 0) ∧ inR (z 1)) ∧ inR (z 2) ∧ inR (z 3) ∧ inR (z 4) ∧ inR (z 5))) := Lib.hid (fun ⟨⟨h0, h1⟩, h2, h3, h4, h5⟩ => hG ((gB_iff z 6).2 (fun j hj => by
    rcases (show j = 0 ∨ j = 1 ∨ j = 2 ∨ j = 3 ∨ j = 4 ∨ j = 5 by omega) with rfl | rfl | rfl | rfl | rfl | rfl
    · exact h0
    · exact h1
    · exact h2
    · exact h3
    · exact h4
    · exact h5)))
  have HG6 : Hid (gB z 6 = false) := Lib.hid (by simpa using hG)
  clear hG
  go_enter Tryd.func3, Tryd.ntmps3
  go_upto_region 6 with (first
    | (go_at_call 5; (with_reducible refine (first21_is _).mono ?_); rintro e w1 ⟨rfl, hb⟩; have HB1 := Lib.hid hb; clear hb))
  have HR1 := Lib.hid (HR.out.below HB1.out)
  have ST := Lib.hid (⟨(Below.refl _ _).drew, (HR1.out.below (Below.refl _ _).drew).c6⟩ : Below w1.heap.size w1 w1.drew ∧ (w1.drew.cell? x = some (.int .i64 (z 0)) ∧ w1.drew.cell? ⟨x.block, x.off + 1, none⟩ = some (.int .i64 (z 1)) ∧ w1.drew.cell? ⟨x.block, x.off + 2, none⟩ = some (.int .i64 (z 2)) ∧ w1.drew.cell? ⟨x.block, x.off + 3, none⟩ = some (.int .i64 (z 3)) ∧ w1.drew.cell? ⟨x.block, x.off + 4, none⟩ = some (.int .i64 (z 4)) ∧ w1.drew.cell? ⟨x.block, x.off + 5, none⟩ = some (.int .i64 (z 5))))
  go_region_held3 (fun w' => Below w1.heap.size w1 w' ∧ (w'.cell? x = some (.int .i64 (z 0)) ∧ w'.cell? ⟨x.block, x.off + 1, none⟩ = some (.int .i64 (z 1)) ∧ w'.cell? ⟨x.block, x.off + 2, none⟩ = some (.int .i64 (z 2)) ∧ w'.cell? ⟨x.block, x.off + 3, none⟩ = some (.int .i64 (z 3)) ∧ w'.cell? ⟨x.block, x.off + 4, none⟩ = some (.int .i64 (z 4)) ∧ w'.cell? ⟨x.block, x.off + 5, none⟩ = some (.int .i64 (z 5)))) (first | exact ST.out | exact keep6 (by assumption) HR1 hb) (first | (go_at_call 6; (with_reducible refine (sys_no (A := A) (z 0) (z 1) (z 2) (z 3) (z 4) (z 5) HNo.out _ ((HS.out.below HB1.out).below (And.left (by assumption)))).mono ?_); rintro e w' ⟨rfl, hb⟩))
  have HB2 : Hid (Below w1.heap.size w1 w') := Lib.hid (And.left (by assumption))
  obtain ⟨w2, hw2⟩ : ∃ w2, w2 = w' := ⟨_, rfl⟩
  subst hw2
  have HR2 := Lib.hid (HR1.out.below HB2.out)
  have HS2 := Lib.hid ((HS.out.below HB1.out).below HB2.out)
  clear ST
  go_upto_region 9 with fail
  go_loopw [6, 7] (fun g i wr => ∃ k : Nat, k ≤ 6 ∧ i = .int .i64 k ∧ g = .bool (gB z k) ∧ Below w2.heap.size w2 wr) (fun _ i _ => 6 - (intOf i).toNat)
  case atStart => exact ⟨0, by omega, rfl, rfl, Below.refl _ _⟩
  case round =>
    obtain ⟨k, hk, rfl, rfl, hbk⟩ := hrel
    have HBk := Lib.hid hbk
    clear hbk
    by_cases hlt : k < 6
    · (obtain ⟨zk, hzk⟩ : ∃ zk, z k = zk := ⟨_, rfl⟩; have hck := (HR2.out.below HBk.out).2 k (by omega); rw [hzk] at hck; have k0 : (0 : Int) ≤ (k : Int) := (by omega); have k1 : (k : Int) < 6 := (by omega); have HG : Hid (gB z (k + 1) = (gB z k && (decide (1 ≤ zk) && decide (zk ≤ 256)))) := Lib.hid (by rw [gB, hzk]); obtain ⟨g, hg⟩ : ∃ g, gB z k = g := ⟨_, rfl⟩; rw [hg] at HG ⊢; obtain ⟨p, hp⟩ : ∃ p, decide (1 ≤ zk) = p := ⟨_, rfl⟩; obtain ⟨r, hr⟩ : ∃ r, decide (zk ≤ 256) = r := ⟨_, rfl⟩; rw [hp, hr] at HG; clear hzk hg; cases g <;> cases p <;> cases r <;> (go_wp2_with fail; go_roundw; (case rel => exact ⟨k + 1, (by omega), (by go_num), (by rw [HG.out]; rfl), HBk.out⟩); (case measure => (simp [intOf]; omega))))
    · have hk6 : k = 6 := by omega
      have hdd : decide ((k : Int) < 6) = false := decide_eq_false (by omega)
      have hg : gB z k = false := by rw [hk6]; exact HG6.out
      rw [hg]
      clear hlt hk6 hg
      go_wp2_with (first
        | (go_at_call 7; (with_reducible refine (is_sen A 2 103 (by decide) (Lib.hid rfl) _ (HS2.out.below HBk.out)).mono ?_); rintro e w4 ⟨rfl, hb⟩; have HB4 := Lib.hid ((HB2.out.trans (HBk.out.mono HB2.out.size)).trans (hb.mono (HB2.out.trans (HBk.out.mono HB2.out.size)).size)); clear hb))
      go_ret
      exact ⟨rfl, HB1.out.trans (HB4.out.mono HB1.out.size)⟩
end Go.Proofs.YtncopdhhchmpeaaDoor
namespace Go.Proofs.YtncopdhhchmpeaaDoor
open Go.ChangeShapes Go.WideShapes Go.ChangeAt Go.RowKit
set_option linter.unusedVariables false
set_option linter.unusedSimpArgs false
def dSizes : List (Option Nat × List Nat × List Nat) := [(some 69, [5], []), (some 70, [69], [0]), (some 71, [70], [1]), (some 72, [4, 71], [2]), (some 73, [72, 71], [3, 2]), (some 74, [73, 71], [4, 2]), (some 75, [74, 71], [5, 2]), (some 76, [75, 71], [6, 2]), (some 77, [76, 71], [7, 2]), (some 78, [77, 71], [8, 2]), (some 79, [78, 71], [9, 2]), (some 80, [79, 71], [10, 2]), (some 81, [80, 71], [11, 2]), (some 82, [81, 71], [12, 2]), (some 83, [82, 71], [13, 2]), (some 84, [83, 71], [14, 2]), (some 85, [84, 71], [15, 2, 2]), (some 86, [0, 71], [2]), (some 87, [86, 71], [17, 2]), (some 88, [87, 71], [18, 2]), (some 89, [85, 88, 71], [16, 19, 2]), (some 90, [71, 89], [2, 20]), (some 91, [90], [21, 16]), (some 92, [4, 91], [22]), (some 93, [92, 91], [23, 22]), (some 94, [93, 91], [24, 22]), (some 95, [94, 91], [25, 22]), (some 96, [95, 91], [26, 22]), (some 97, [96, 91], [27, 22]), (some 98, [97, 91], [28, 22]), (some 99, [98, 91], [29, 22]), (some 100, [99, 91], [30, 22]), (some 101, [100, 91], [31, 22]), (some 102, [101, 91], [32, 22]), (some 103, [102, 91], [33, 22]), (some 104, [103, 91], [34, 22]), (some 105, [104, 91], [35, 22, 22]), (some 106, [0, 91], [22]), (some 107, [106, 91], [37, 22]), (some 108, [107, 91], [38, 22]), (some 109, [105, 108, 91], [36, 39, 22]), (some 110, [91, 109], [22, 40]), (some 111, [110], [41, 36]), (some 112, [4, 111], [42]), (some 113, [112, 111], [43, 42]), (some 114, [113, 111], [44, 42]), (some 115, [114, 111], [45, 42]), (some 116, [115, 111], [46, 42]), (some 117, [116, 111], [47, 42]), (some 118, [117, 111], [48, 42]), (some 119, [118, 111], [49, 42, 42]), (some 120, [0, 111], [42]), (some 121, [120, 111], [51, 42]), (some 122, [121, 111], [52, 42]), (some 123, [119, 122, 111], [50, 53, 42]), (some 124, [111, 123], [42, 54]), (some 125, [124], [55, 50]), (some 126, [4, 125], [56]), (some 127, [126, 125], [57, 56]), (some 128, [127, 125], [58, 56]), (some 129, [128, 125], [59, 56]), (some 130, [129, 125], [60, 56]), (some 131, [130, 125], [61, 56]), (some 132, [131, 125], [62, 56]), (some 133, [132, 125], [63, 56, 56]), (some 134, [0, 125], [56]), (some 135, [134, 125], [65, 56]), (some 136, [135, 125], [66, 56]), (some 137, [133, 136, 125], [64, 67, 56]), (some 138, [125, 137], [56, 68]), (some 139, [138], [69, 64]), (some 140, [4, 139], [70]), (some 141, [140, 139], [71, 70]), (some 142, [141, 139], [72, 70]), (some 143, [142, 139], [73, 70]), (some 144, [143, 139], [74, 70]), (some 145, [144, 139], [75, 70]), (some 146, [145, 139], [76, 70]), (some 147, [146, 139], [77, 70, 70]), (some 148, [0, 139], [70]), (some 149, [148, 139], [79, 70]), (some 150, [149, 139], [80, 70]), (some 151, [147, 150, 139], [78, 81, 70]), (some 152, [139, 151], [70, 82]), (some 153, [152], [83, 78]), (some 154, [4, 153], [84]), (some 155, [154, 153], [85, 84]), (some 156, [155, 153], [86, 84]), (some 157, [156, 153], [87, 84]), (some 158, [157, 153], [88, 84]), (some 159, [158, 153], [89, 84]), (some 160, [159, 153], [90, 84]), (some 161, [160, 153], [91, 84, 84]), (some 162, [0, 153], [84]), (some 163, [162, 153], [93, 84]), (some 164, [163, 153], [94, 84]), (some 165, [161, 164, 153], [92, 95, 84]), (some 166, [153, 165], [84, 96]), (some 167, [166], [97, 92]), (some 168, [4, 167], [98]), (some 169, [168, 167], [99, 98]), (some 170, [169, 167], [100, 98]), (some 171, [170, 167], [101, 98]), (some 172, [171, 167], [102, 98, 98]), (some 173, [172, 167], [103, 98]), (some 174, [167, 173], [98, 104]), (some 175, [174], [105, 103]), (some 176, [4, 175], [106]), (some 177, [176, 175], [107, 106]), (some 178, [177, 175], [108, 106]), (some 179, [178, 175], [109, 106]), (some 180, [179, 175], [110, 106]), (some 181, [175, 180], [106, 111]), (some 2, [181], [112, 106, 0, 1, 2, 3, 4, 5, 6, 7, 8, 9, 10, 11, 12, 13, 14, 15, 16, 17, 18, 19, 20, 21, 22, 23, 24, 25, 26, 27, 28, 29, 30, 31, 32, 33, 34, 35, 36, 37, 38, 39, 40, 41, 42, 43, 44, 45, 46, 47, 48, 49, 50, 51, 52, 53, 54, 55, 56, 57, 58, 59, 60, 61, 62, 63, 64, 65, 66, 67, 68, 69, 70, 71, 72, 73, 74, 75, 76, 77, 78, 79, 80, 81, 82, 83, 84, 85, 86, 87, 88, 89, 90, 91, 92, 93, 94, 95, 96, 97, 98, 99, 100, 101, 102, 103, 104, 105, 106, 107, 108, 109, 110, 111, 112])]
set_option maxRecDepth 100000 in
set_option maxHeartbeats 16000000 in
theorem sizes_yes {A : Nat → Addr} (x : Addr) (cap : Nat) (z : Nat → Int) (w : World) (HR : Hid (Row6 w x z)) (HS : Hid (Sen A w)) (hG : gB z 6 = true) :
    Calls Tryd.prog 3 #[.slice (some x) 6 cap] w fun e w' => e = .returned (.bool true) ∧ Below w.heap.size w w' := by
  have hall := (gB_iff z 6).1 hG
  obtain ⟨n0, r0, h0⟩ := nat_of (hall 0 (by decide))
  obtain ⟨n1, r1, h1⟩ := nat_of (hall 1 (by decide))
  obtain ⟨n2, r2, h2⟩ := nat_of (hall 2 (by decide))
  obtain ⟨n3, r3, h3⟩ := nat_of (hall 3 (by decide))
  obtain ⟨n4, r4, h4⟩ := nat_of (hall 4 (by decide))
  obtain ⟨n5, r5, h5⟩ := nat_of (hall 5 (by decide))
  have HX : Hid (z 0 = n0 ∧ z 1 = n1 ∧ z 2 = n2 ∧ z 3 = n3 ∧ z 4 = n4 ∧ z 5 = n5) := Lib.hid ⟨r0, r1, r2, r3, r4, r5⟩
  have HG6 : Hid (gB z 6 = true) := Lib.hid hG
  clear hG hall r0 r1 r2 r3 r4 r5
  go_enter Tryd.func3, Tryd.ntmps3
  go_upto_region 6 with (first
    | (go_at_call 5; (with_reducible refine (first21_is _).mono ?_); rintro e w1 ⟨rfl, hb⟩; have HB1 := Lib.hid hb; clear hb))
  have HR1 := Lib.hid (HR.out.below HB1.out)
  have ST := Lib.hid (⟨(Below.refl _ _).drew, (HR1.out.below (Below.refl _ _).drew).c6⟩ : Below w1.heap.size w1 w1.drew ∧ (w1.drew.cell? x = some (.int .i64 (z 0)) ∧ w1.drew.cell? ⟨x.block, x.off + 1, none⟩ = some (.int .i64 (z 1)) ∧ w1.drew.cell? ⟨x.block, x.off + 2, none⟩ = some (.int .i64 (z 2)) ∧ w1.drew.cell? ⟨x.block, x.off + 3, none⟩ = some (.int .i64 (z 3)) ∧ w1.drew.cell? ⟨x.block, x.off + 4, none⟩ = some (.int .i64 (z 4)) ∧ w1.drew.cell? ⟨x.block, x.off + 5, none⟩ = some (.int .i64 (z 5))))
  go_region_held3 (fun w' => Below w1.heap.size w1 w' ∧ (w'.cell? x = some (.int .i64 (z 0)) ∧ w'.cell? ⟨x.block, x.off + 1, none⟩ = some (.int .i64 (z 1)) ∧ w'.cell? ⟨x.block, x.off + 2, none⟩ = some (.int .i64 (z 2)) ∧ w'.cell? ⟨x.block, x.off + 3, none⟩ = some (.int .i64 (z 3)) ∧ w'.cell? ⟨x.block, x.off + 4, none⟩ = some (.int .i64 (z 4)) ∧ w'.cell? ⟨x.block, x.off + 5, none⟩ = some (.int .i64 (z 5)))) (first | exact ST.out | exact keep6 (by assumption) HR1 hb) (first | (go_at_call 6; (with_reducible refine (sys_ok n0 n1 n2 n3 n4 n5 h0 h1 h2 h3 h4 h5 (z 0) (z 1) (z 2) (z 3) (z 4) (z 5) HX _).mono ?_); rintro e w' ⟨L, X, rfl, hs, hn, hb⟩; have HSy := Lib.hid hs; have HN := Lib.hid hn.out; clear hs hn))
  have HB2 : Hid (Below w1.heap.size w1 w') := Lib.hid (And.left (by assumption))
  obtain ⟨w2, hw2⟩ : ∃ w2, w2 = w' := ⟨_, rfl⟩
  subst hw2
  have HR2 := Lib.hid (HR1.out.below HB2.out)
  clear ST
  go_upto_region 9 with fail
  go_loopw [6, 7] (fun g i wr => ∃ k : Nat, k ≤ 6 ∧ i = .int .i64 k ∧ g = .bool (gB z k) ∧ Below w2.heap.size w2 wr) (fun _ i _ => 6 - (intOf i).toNat)
  case atStart => exact ⟨0, by omega, rfl, rfl, Below.refl _ _⟩
  case round =>
    obtain ⟨k, hk, rfl, rfl, hbk⟩ := hrel
    have HBk := Lib.hid hbk
    clear hbk
    by_cases hlt : k < 6
    · (obtain ⟨zk, hzk⟩ : ∃ zk, z k = zk := ⟨_, rfl⟩; have hck := (HR2.out.below HBk.out).2 k (by omega); rw [hzk] at hck; have k0 : (0 : Int) ≤ (k : Int) := (by omega); have k1 : (k : Int) < 6 := (by omega); have HG : Hid (gB z (k + 1) = (gB z k && (decide (1 ≤ zk) && decide (zk ≤ 256)))) := Lib.hid (by rw [gB, hzk]); obtain ⟨g, hg⟩ : ∃ g, gB z k = g := ⟨_, rfl⟩; rw [hg] at HG ⊢; obtain ⟨p, hp⟩ : ∃ p, decide (1 ≤ zk) = p := ⟨_, rfl⟩; obtain ⟨r, hr⟩ : ∃ r, decide (zk ≤ 256) = r := ⟨_, rfl⟩; rw [hp, hr] at HG; clear hzk hg; cases g <;> cases p <;> cases r <;> (go_wp2_with fail; go_roundw; (case rel => exact ⟨k + 1, (by omega), (by go_num), (by rw [HG.out]; rfl), HBk.out⟩); (case measure => (simp [intOf]; omega))))
    · have hk6 : k = 6 := by omega
      have hdd : decide ((k : Int) < 6) = false := decide_eq_false (by omega)
      have hg : gB z k = true := by rw [hk6]; exact HG6.out
      rw [hg]
      as_aux_lemma =>
        have hs := HSy.out.below HBk.out
        have hc := (HR2.out.below HBk.out).c6
        obtain ⟨x0, x1, x2, x3, x4, x5⟩ := HX.out
        obtain ⟨e0, e1, e2, e3, e4, e5⟩ := HN.out
        rw [x0, x1, x2, x3, x4, x5] at hc
        obtain ⟨c0, c1, c2, c3, c4, c5⟩ := hc
        have s0 := hs.b.c0
        have s1 := hs.b.c1
        have s2 := hs.b.c2
        have s3 := hs.b.c3
        have s4 := hs.b.c4
        have s5 := hs.b.c5
        have s8 := hs.b.c8
        have m0 := hs.k.m.m0
        have t0 := hs.k.m.sv.st.s0
        have t1 := hs.k.m.sv.st.s1
        have p0 := hs.k.m.sv.st.nd.f0
        have p1 := hs.k.m.sv.st.pg.f0
        have p2 := hs.k.d.pl.f0
        have p3 := hs.t.f0
        have p4 := hs.k.k.f0
        have p5 := hs.f.f0
        have hn := fun n => hs.below (below_drewN (Below.refl _ _) n)
        have HC0 := Lib.hid (fun n => acap_eq (hn n).k.m.sv.st.nd.ar e0)
        have HC1 := Lib.hid (fun n => acap_eq (hn n).k.m.sv.st.pg.ar e1)
        have HC2 := Lib.hid (fun n => acap_eq (hn n).k.d.pl.ar e2)
        have HC3 := Lib.hid (fun n => acap_eq (hn n).t.ar e3)
        have HC4 := Lib.hid (fun n => acap_eq (hn n).k.k.ar e4)
        have HC5 := Lib.hid (fun n => acap_eq (hn n).f.ar e5)
        have HQ := Lib.hid (fun n => qlen0_is _ _ (hn n).q0)
        clear hlt hk6 hg hs hn x0 x1 x2 x3 x4 x5 e0 e1 e2 e3 e4 e5
        go_wp2_with fail
        simp only [List.append_eq, List.cons_append, List.nil_append]
        refine wp_region_quiet_lit (by kernel_rfl) (lexB_of dSizes (by kernel_rfl) (by kernel_rfl) (by kernel_rfl) (by kernel_rfl)) ?_
        repeat (go_big_quiet_step ((first | (go_at_call 8; with_reducible exact kquiet_left (HC0.out _)) | (go_at_call 8; with_reducible exact kquiet_left (HC1.out _)) | (go_at_call 8; with_reducible exact kquiet_left (HC2.out _)) | (go_at_call 8; with_reducible exact kquiet_left (HC3.out _)) | (go_at_call 8; with_reducible exact kquiet_left (HC4.out _)) | (go_at_call 8; with_reducible exact kquiet_left (HC5.out _)) | (go_at_call 9; with_reducible exact kquiet_left (HQ.out _)))))
        refine wpQuiet_nil ?_
        intro _ hw'
        obtain ⟨nq, hw''⟩ := hw'
        subst hw''
        go_wp2_with fail
        go_ret
        exact ⟨rfl, below_drewN (HB1.out.trans ((HB2.out.trans (HBk.out.mono HB2.out.size)).mono HB1.out.size)) _⟩
end Go.Proofs.YtncopdhhchmpeaaDoor
namespace Go.Proofs.YtncopdhhchmpeaaDoor
open Go.ChangeShapes Go.WideShapes Go.ChangeAt Go.RowKit
set_option linter.unusedVariables false
set_option linter.unusedSimpArgs false
set_option maxRecDepth 100000 in
set_option maxHeartbeats 16000000 in
theorem sizes_any {A : Nat → Addr} (a : Option Addr) (len cap : Nat) (z : Nat → Int) (w : World) (hr : Hid (len = 6 → ∃ x, a = some x ∧ Row6 w x z)) (hS : Sen A w) :
    Calls Tryd.prog 3 #[.slice a len cap] w fun e w' => e = .returned (.bool true) ∧ Below w.heap.size w w' := by
  have HS := Lib.hid hS
  clear hS
  by_cases h6 : len = 6
  case neg =>
    have d0 : ((len : Int) != 6) = true := by rw [bne_iff_ne]; omega
    clear h6
    go_enter Tryd.func3, Tryd.ntmps3
    go_wp2_with (first
      | (go_at_call 5; (with_reducible refine (first21_is _).mono ?_); rintro e w1 ⟨rfl, hb⟩; have HB1 := Lib.hid hb; clear hb))
    go_ret
    exact ⟨rfl, HB1.out⟩
  obtain ⟨x, rfl, hrow⟩ := hr.out h6
  subst h6
  have HR := Lib.hid hrow
  clear hr hrow
  by_cases hG : gB z 6 = true
  · exact sizes_yes x cap z w HR HS hG
  · exact sizes_no x cap z w HR HS hG
theorem walk_SysSizes (a0 : Option Addr) (len0 cap0 : Nat) (z0 : List Int) (w : World) (w0 : IsRow .i64 w a0 len0 cap0 z0) (hL : laidMetH Tryd.prog Rows.sysSizesRow.laid w) :
    Calls Tryd.prog 3 #[.slice a0 len0 cap0] w fun e w' => e = .returned (.bool true) ∧ Below w.heap.size w w' := by
  rw [MakeChecks.laidMetH_plain _ _ _ (by kernel_rfl)] at hL
  have hS := sen_of hL (by
    intro n hn
    simp only [List.mem_cons, List.not_mem_nil, or_false] at hn
    rcases hn with rfl | rfl | rfl | rfl | rfl | rfl | rfl | rfl | rfl | rfl | rfl | rfl <;> exact ⟨_, by repeat (first | exact List.Mem.head _ | apply List.Mem.tail)⟩)
  refine sizes_any a0 len0 cap0 (fun i => z0.getD i 0) w (Lib.hid fun h6 => ?_) hS
  rcases w0 with ⟨rfl, h, _, _⟩ | ⟨x, rfl, h1, h2, h3, h4, h5⟩
  · omega
  · refine ⟨x, rfl, ?_, fun i hi => h4 i (by omega)⟩
    have hc := h4 0 (by omega)
    rcases Nat.lt_or_ge (x.add 0).block w.heap.size with h' | h'
    · rwa [add_blk] at h'
    · simp [World.cell?, Array.getElem?_eq_none h'] at hc
end Go.Proofs.YtncopdhhchmpeaaDoor
