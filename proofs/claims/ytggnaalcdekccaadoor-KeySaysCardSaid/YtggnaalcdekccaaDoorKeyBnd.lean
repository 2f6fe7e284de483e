import Derived.Test.YtggnaalcdekccaaDoorKeyAny
import Derived.Test.YtggnaalcdekccaaDoorKeyText
import Derived.Test.YtggnaalcdekccaaDoorErrs
namespace Go.Proofs.YtggnaalcdekccaaDoor
open Go.ChangeShapes Go.WideShapes Go.ChangeAt Go.RowKit
set_option linter.unusedVariables false
/-- The error's value at an address. -/
abbrev errV (a : Addr) : Value := .iface 109 (.pointer (some a))
/-- What the laws of this chapter carry: below the start all is as it was; the two errors, the kind's name of a page lie in their variables. -/
def KW (a b : Addr) (W w : World) : Prop := Below W.heap.size W w ∧ ErrsAt (errV a) (errV b) w ∧ w.cell? ⟨2, 3, none⟩ = some (.string ⟨#[112, 97, 103, 101]⟩) ∧ 2 < w.heap.size
theorem KW.errs {a b : Addr} {W w : World} (h : KW a b W w) : ErrsAt (errV a) (errV b) w := h.2.1
theorem KW.bel {a b : Addr} {W w : World} (h : KW a b W w) : Below W.heap.size W w := h.1
theorem KW.step {a b : Addr} {W w w' : World} (h : KW a b W w) (hb : Below w.heap.size w w') : KW a b W w' :=
  ⟨h.1.trans (hb.mono h.1.size), h.2.1.below hb, (hb.cell (p := ⟨2, 3, none⟩) h.2.2.2).trans h.2.2.1, Nat.lt_of_lt_of_le h.2.2.2 hb.size⟩
set_option maxRecDepth 100000 in
set_option maxHeartbeats 1000000 in
theorem kb_nnn (a0 a1 a2 a3 : Int) (a b : Addr) (w : World) (hK : KW a b w w) (h3 : Hid (rightB 1 0 0 0 a3 = true)) (h1 : Hid (rightB 2 a0 a1 a2 a3 = false)) (x1 : Hid (¬ (0 ≤ a1 ∧ a1 ≤ 1048575 ∧ 0 ≤ a0 ∧ a0 < 256 ∧ 0 ≤ a2 ∧ a2 ≤ 7 ∧ a3 ≤ 4))) (h2 : Hid (rightB 5 a0 a1 0 a3 = false)) (x2 : Hid (¬ (0 ≤ a1 ∧ a1 ≤ 1048575 ∧ 0 ≤ a0 ∧ a0 < 32 ∧ a3 ≤ 536870911))) (h4 : Hid (rightB 0 a0 0 0 0 = false)) (h5 : (a0 == 0) = false) :
    Calls Tryd.prog 10 #[.int .i64 a0, .int .i64 a1, .int .i64 a2, .int .u32 a3] w fun e w' => e = .returned (.bool true) ∧ Below w.heap.size w w' := by
  go_enter Tryd.func10, Tryd.ntmps10
  go_wp2_with (first | (go_at_call 26; refine (kfirst_any _ hK.2.2.1 hK.2.2.2).mono ?_; rintro e w1 ⟨rfl, hb⟩; replace hK := hK.step hb; clear hb) | (go_at_call 32; (with_reducible refine (kvalid_bad _ _ _ _ _ _ _ _ h1 _ hK.errs).mono ?_); rintro e w1 ⟨c, rfl, hb⟩; replace hK := hK.step hb; clear hb) | (go_at_call 32; (with_reducible refine (kvalid_bad _ _ _ _ _ _ _ _ h2 _ hK.errs).mono ?_); rintro e w1 ⟨c, rfl, hb⟩; replace hK := hK.step hb; clear hb) | (go_at_call 32; (with_reducible refine (kvalid_ok _ _ _ _ _ _ _ h3 _ hK.errs).mono ?_); rintro e w1 ⟨rfl, hb⟩; replace hK := hK.step hb; clear hb) | (go_at_call 32; (with_reducible refine (kvalid_bad _ _ _ _ _ _ _ _ h4 _ hK.errs).mono ?_); rintro e w1 ⟨c, rfl, hb⟩; replace hK := hK.step hb; clear hb) | (go_at_call 39; refine (knum_is _ _).mono ?_; rintro e w1 ⟨rfl, hb⟩; replace hK := hK.step hb; clear hb))
  all_goals first | (exfalso; have z1 := x1.out; have z2 := x2.out; omega) | (go_ret; exact ⟨rfl, hK.bel⟩) | (go_ret; refine ⟨?_, hK.bel⟩; have z1 := x1.out; have z2 := x2.out; simp; omega)
set_option maxRecDepth 100000 in
set_option maxHeartbeats 1000000 in
theorem kb_ynn (a0 a1 a2 a3 : Int) (a b : Addr) (w : World) (hK : KW a b w w) (h3 : Hid (rightB 1 0 0 0 a3 = true)) (h1 : Hid (rightB 2 a0 a1 a2 a3 = true)) (x10 : 0 ≤ a1) (x11 : a1 ≤ 1048575) (x12 : 0 ≤ a0) (x13 : a0 < 256) (x14 : 0 ≤ a2) (x15 : a2 ≤ 7) (x16 : a3 ≤ 4) (h2 : Hid (rightB 5 a0 a1 0 a3 = false)) (x2 : Hid (¬ (0 ≤ a1 ∧ a1 ≤ 1048575 ∧ 0 ≤ a0 ∧ a0 < 32 ∧ a3 ≤ 536870911))) (h4 : Hid (rightB 0 a0 0 0 0 = false)) (h5 : (a0 == 0) = false) :
    Calls Tryd.prog 10 #[.int .i64 a0, .int .i64 a1, .int .i64 a2, .int .u32 a3] w fun e w' => e = .returned (.bool true) ∧ Below w.heap.size w w' := by
  go_enter Tryd.func10, Tryd.ntmps10
  go_wp2_with (first | (go_at_call 26; refine (kfirst_any _ hK.2.2.1 hK.2.2.2).mono ?_; rintro e w1 ⟨rfl, hb⟩; replace hK := hK.step hb; clear hb) | (go_at_call 32; (with_reducible refine (kvalid_ok _ _ _ _ _ _ _ h1 _ hK.errs).mono ?_); rintro e w1 ⟨rfl, hb⟩; replace hK := hK.step hb; clear hb) | (go_at_call 32; (with_reducible refine (kvalid_bad _ _ _ _ _ _ _ _ h2 _ hK.errs).mono ?_); rintro e w1 ⟨c, rfl, hb⟩; replace hK := hK.step hb; clear hb) | (go_at_call 32; (with_reducible refine (kvalid_ok _ _ _ _ _ _ _ h3 _ hK.errs).mono ?_); rintro e w1 ⟨rfl, hb⟩; replace hK := hK.step hb; clear hb) | (go_at_call 32; (with_reducible refine (kvalid_bad _ _ _ _ _ _ _ _ h4 _ hK.errs).mono ?_); rintro e w1 ⟨c, rfl, hb⟩; replace hK := hK.step hb; clear hb) | (go_at_call 39; refine (knum_is _ _).mono ?_; rintro e w1 ⟨rfl, hb⟩; replace hK := hK.step hb; clear hb))
  all_goals first | (exfalso; have z2 := x2.out; omega) | (go_ret; exact ⟨rfl, hK.bel⟩) | (go_ret; refine ⟨?_, hK.bel⟩; have z2 := x2.out; simp; omega)
set_option maxRecDepth 100000 in
set_option maxHeartbeats 1000000 in
theorem kb_nyn (a0 a1 a2 a3 : Int) (a b : Addr) (w : World) (hK : KW a b w w) (h3 : Hid (rightB 1 0 0 0 a3 = true)) (h1 : Hid (rightB 2 a0 a1 a2 a3 = false)) (x1 : Hid (¬ (0 ≤ a1 ∧ a1 ≤ 1048575 ∧ 0 ≤ a0 ∧ a0 < 256 ∧ 0 ≤ a2 ∧ a2 ≤ 7 ∧ a3 ≤ 4))) (h2 : Hid (rightB 5 a0 a1 0 a3 = true)) (x20 : 0 ≤ a1) (x21 : a1 ≤ 1048575) (x22 : 0 ≤ a0) (x23 : a0 < 32) (x24 : a3 ≤ 536870911) (h4 : Hid (rightB 0 a0 0 0 0 = false)) (h5 : (a0 == 0) = false) :
    Calls Tryd.prog 10 #[.int .i64 a0, .int .i64 a1, .int .i64 a2, .int .u32 a3] w fun e w' => e = .returned (.bool true) ∧ Below w.heap.size w w' := by
  go_enter Tryd.func10, Tryd.ntmps10
  go_wp2_with (first | (go_at_call 26; refine (kfirst_any _ hK.2.2.1 hK.2.2.2).mono ?_; rintro e w1 ⟨rfl, hb⟩; replace hK := hK.step hb; clear hb) | (go_at_call 32; (with_reducible refine (kvalid_bad _ _ _ _ _ _ _ _ h1 _ hK.errs).mono ?_); rintro e w1 ⟨c, rfl, hb⟩; replace hK := hK.step hb; clear hb) | (go_at_call 32; (with_reducible refine (kvalid_ok _ _ _ _ _ _ _ h2 _ hK.errs).mono ?_); rintro e w1 ⟨rfl, hb⟩; replace hK := hK.step hb; clear hb) | (go_at_call 32; (with_reducible refine (kvalid_ok _ _ _ _ _ _ _ h3 _ hK.errs).mono ?_); rintro e w1 ⟨rfl, hb⟩; replace hK := hK.step hb; clear hb) | (go_at_call 32; (with_reducible refine (kvalid_bad _ _ _ _ _ _ _ _ h4 _ hK.errs).mono ?_); rintro e w1 ⟨c, rfl, hb⟩; replace hK := hK.step hb; clear hb) | (go_at_call 39; refine (knum_is _ _).mono ?_; rintro e w1 ⟨rfl, hb⟩; replace hK := hK.step hb; clear hb))
  all_goals first | (exfalso; have z1 := x1.out; omega) | (go_ret; exact ⟨rfl, hK.bel⟩) | (go_ret; refine ⟨?_, hK.bel⟩; have z1 := x1.out; simp; omega)
set_option maxRecDepth 100000 in
set_option maxHeartbeats 1000000 in
theorem kb_yyn (a0 a1 a2 a3 : Int) (a b : Addr) (w : World) (hK : KW a b w w) (h3 : Hid (rightB 1 0 0 0 a3 = true)) (h1 : Hid (rightB 2 a0 a1 a2 a3 = true)) (x10 : 0 ≤ a1) (x11 : a1 ≤ 1048575) (x12 : 0 ≤ a0) (x13 : a0 < 256) (x14 : 0 ≤ a2) (x15 : a2 ≤ 7) (x16 : a3 ≤ 4) (h2 : Hid (rightB 5 a0 a1 0 a3 = true)) (x20 : 0 ≤ a1) (x21 : a1 ≤ 1048575) (x22 : 0 ≤ a0) (x23 : a0 < 32) (x24 : a3 ≤ 536870911) (h4 : Hid (rightB 0 a0 0 0 0 = false)) (h5 : (a0 == 0) = false) :
    Calls Tryd.prog 10 #[.int .i64 a0, .int .i64 a1, .int .i64 a2, .int .u32 a3] w fun e w' => e = .returned (.bool true) ∧ Below w.heap.size w w' := by
  go_enter Tryd.func10, Tryd.ntmps10
  go_wp2_with (first | (go_at_call 26; refine (kfirst_any _ hK.2.2.1 hK.2.2.2).mono ?_; rintro e w1 ⟨rfl, hb⟩; replace hK := hK.step hb; clear hb) | (go_at_call 32; (with_reducible refine (kvalid_ok _ _ _ _ _ _ _ h1 _ hK.errs).mono ?_); rintro e w1 ⟨rfl, hb⟩; replace hK := hK.step hb; clear hb) | (go_at_call 32; (with_reducible refine (kvalid_ok _ _ _ _ _ _ _ h2 _ hK.errs).mono ?_); rintro e w1 ⟨rfl, hb⟩; replace hK := hK.step hb; clear hb) | (go_at_call 32; (with_reducible refine (kvalid_ok _ _ _ _ _ _ _ h3 _ hK.errs).mono ?_); rintro e w1 ⟨rfl, hb⟩; replace hK := hK.step hb; clear hb) | (go_at_call 32; (with_reducible refine (kvalid_bad _ _ _ _ _ _ _ _ h4 _ hK.errs).mono ?_); rintro e w1 ⟨c, rfl, hb⟩; replace hK := hK.step hb; clear hb) | (go_at_call 39; refine (knum_is _ _).mono ?_; rintro e w1 ⟨rfl, hb⟩; replace hK := hK.step hb; clear hb))
  all_goals first | (exfalso; omega) | (go_ret; exact ⟨rfl, hK.bel⟩) | (go_ret; refine ⟨?_, hK.bel⟩; simp; omega)
set_option maxRecDepth 100000 in
set_option maxHeartbeats 1000000 in
theorem kb_nny (a0 a1 a2 a3 : Int) (a b : Addr) (w : World) (hK : KW a b w w) (h3 : Hid (rightB 1 0 0 0 a3 = true)) (h1 : Hid (rightB 2 a0 a1 a2 a3 = false)) (x1 : Hid (¬ (0 ≤ a1 ∧ a1 ≤ 1048575 ∧ 0 ≤ a0 ∧ a0 < 256 ∧ 0 ≤ a2 ∧ a2 ≤ 7 ∧ a3 ≤ 4))) (h2 : Hid (rightB 5 a0 a1 0 a3 = false)) (x2 : Hid (¬ (0 ≤ a1 ∧ a1 ≤ 1048575 ∧ 0 ≤ a0 ∧ a0 < 32 ∧ a3 ≤ 536870911))) (h4 : Hid (rightB 0 a0 0 0 0 = true)) (h5 : (a0 == 0) = true) (y0 : 0 ≤ a0) (y1 : a0 ≤ 0) :
    Calls Tryd.prog 10 #[.int .i64 a0, .int .i64 a1, .int .i64 a2, .int .u32 a3] w fun e w' => e = .returned (.bool true) ∧ Below w.heap.size w w' := by
  go_enter Tryd.func10, Tryd.ntmps10
  go_wp2_with (first | (go_at_call 26; refine (kfirst_any _ hK.2.2.1 hK.2.2.2).mono ?_; rintro e w1 ⟨rfl, hb⟩; replace hK := hK.step hb; clear hb) | (go_at_call 32; (with_reducible refine (kvalid_bad _ _ _ _ _ _ _ _ h1 _ hK.errs).mono ?_); rintro e w1 ⟨c, rfl, hb⟩; replace hK := hK.step hb; clear hb) | (go_at_call 32; (with_reducible refine (kvalid_bad _ _ _ _ _ _ _ _ h2 _ hK.errs).mono ?_); rintro e w1 ⟨c, rfl, hb⟩; replace hK := hK.step hb; clear hb) | (go_at_call 32; (with_reducible refine (kvalid_ok _ _ _ _ _ _ _ h3 _ hK.errs).mono ?_); rintro e w1 ⟨rfl, hb⟩; replace hK := hK.step hb; clear hb) | (go_at_call 32; (with_reducible refine (kvalid_ok _ _ _ _ _ _ _ h4 _ hK.errs).mono ?_); rintro e w1 ⟨rfl, hb⟩; replace hK := hK.step hb; clear hb) | (go_at_call 39; refine (knum_is _ _).mono ?_; rintro e w1 ⟨rfl, hb⟩; replace hK := hK.step hb; clear hb))
  all_goals first | (exfalso; have z1 := x1.out; have z2 := x2.out; omega) | (go_ret; exact ⟨rfl, hK.bel⟩) | (go_ret; refine ⟨?_, hK.bel⟩; have z1 := x1.out; have z2 := x2.out; simp; omega)
set_option maxRecDepth 100000 in
set_option maxHeartbeats 1000000 in
theorem kb_yny (a0 a1 a2 a3 : Int) (a b : Addr) (w : World) (hK : KW a b w w) (h3 : Hid (rightB 1 0 0 0 a3 = true)) (h1 : Hid (rightB 2 a0 a1 a2 a3 = true)) (x10 : 0 ≤ a1) (x11 : a1 ≤ 1048575) (x12 : 0 ≤ a0) (x13 : a0 < 256) (x14 : 0 ≤ a2) (x15 : a2 ≤ 7) (x16 : a3 ≤ 4) (h2 : Hid (rightB 5 a0 a1 0 a3 = false)) (x2 : Hid (¬ (0 ≤ a1 ∧ a1 ≤ 1048575 ∧ 0 ≤ a0 ∧ a0 < 32 ∧ a3 ≤ 536870911))) (h4 : Hid (rightB 0 a0 0 0 0 = true)) (h5 : (a0 == 0) = true) (y0 : 0 ≤ a0) (y1 : a0 ≤ 0) :
    Calls Tryd.prog 10 #[.int .i64 a0, .int .i64 a1, .int .i64 a2, .int .u32 a3] w fun e w' => e = .returned (.bool true) ∧ Below w.heap.size w w' := by
  go_enter Tryd.func10, Tryd.ntmps10
  go_wp2_with (first | (go_at_call 26; refine (kfirst_any _ hK.2.2.1 hK.2.2.2).mono ?_; rintro e w1 ⟨rfl, hb⟩; replace hK := hK.step hb; clear hb) | (go_at_call 32; (with_reducible refine (kvalid_ok _ _ _ _ _ _ _ h1 _ hK.errs).mono ?_); rintro e w1 ⟨rfl, hb⟩; replace hK := hK.step hb; clear hb) | (go_at_call 32; (with_reducible refine (kvalid_bad _ _ _ _ _ _ _ _ h2 _ hK.errs).mono ?_); rintro e w1 ⟨c, rfl, hb⟩; replace hK := hK.step hb; clear hb) | (go_at_call 32; (with_reducible refine (kvalid_ok _ _ _ _ _ _ _ h3 _ hK.errs).mono ?_); rintro e w1 ⟨rfl, hb⟩; replace hK := hK.step hb; clear hb) | (go_at_call 32; (with_reducible refine (kvalid_ok _ _ _ _ _ _ _ h4 _ hK.errs).mono ?_); rintro e w1 ⟨rfl, hb⟩; replace hK := hK.step hb; clear hb) | (go_at_call 39; refine (knum_is _ _).mono ?_; rintro e w1 ⟨rfl, hb⟩; replace hK := hK.step hb; clear hb))
  all_goals first | (exfalso; have z2 := x2.out; omega) | (go_ret; exact ⟨rfl, hK.bel⟩) | (go_ret; refine ⟨?_, hK.bel⟩; have z2 := x2.out; simp; omega)
set_option maxRecDepth 100000 in
set_option maxHeartbeats 1000000 in
theorem kb_nyy (a0 a1 a2 a3 : Int) (a b : Addr) (w : World) (hK : KW a b w w) (h3 : Hid (rightB 1 0 0 0 a3 = true)) (h1 : Hid (rightB 2 a0 a1 a2 a3 = false)) (x1 : Hid (¬ (0 ≤ a1 ∧ a1 ≤ 1048575 ∧ 0 ≤ a0 ∧ a0 < 256 ∧ 0 ≤ a2 ∧ a2 ≤ 7 ∧ a3 ≤ 4))) (h2 : Hid (rightB 5 a0 a1 0 a3 = true)) (x20 : 0 ≤ a1) (x21 : a1 ≤ 1048575) (x22 : 0 ≤ a0) (x23 : a0 < 32) (x24 : a3 ≤ 536870911) (h4 : Hid (rightB 0 a0 0 0 0 = true)) (h5 : (a0 == 0) = true) (y0 : 0 ≤ a0) (y1 : a0 ≤ 0) :
    Calls Tryd.prog 10 #[.int .i64 a0, .int .i64 a1, .int .i64 a2, .int .u32 a3] w fun e w' => e = .returned (.bool true) ∧ Below w.heap.size w w' := by
  go_enter Tryd.func10, Tryd.ntmps10
  go_wp2_with (first | (go_at_call 26; refine (kfirst_any _ hK.2.2.1 hK.2.2.2).mono ?_; rintro e w1 ⟨rfl, hb⟩; replace hK := hK.step hb; clear hb) | (go_at_call 32; (with_reducible refine (kvalid_bad _ _ _ _ _ _ _ _ h1 _ hK.errs).mono ?_); rintro e w1 ⟨c, rfl, hb⟩; replace hK := hK.step hb; clear hb) | (go_at_call 32; (with_reducible refine (kvalid_ok _ _ _ _ _ _ _ h2 _ hK.errs).mono ?_); rintro e w1 ⟨rfl, hb⟩; replace hK := hK.step hb; clear hb) | (go_at_call 32; (with_reducible refine (kvalid_ok _ _ _ _ _ _ _ h3 _ hK.errs).mono ?_); rintro e w1 ⟨rfl, hb⟩; replace hK := hK.step hb; clear hb) | (go_at_call 32; (with_reducible refine (kvalid_ok _ _ _ _ _ _ _ h4 _ hK.errs).mono ?_); rintro e w1 ⟨rfl, hb⟩; replace hK := hK.step hb; clear hb) | (go_at_call 39; refine (knum_is _ _).mono ?_; rintro e w1 ⟨rfl, hb⟩; replace hK := hK.step hb; clear hb))
  all_goals first | (exfalso; have z1 := x1.out; omega) | (go_ret; exact ⟨rfl, hK.bel⟩) | (go_ret; refine ⟨?_, hK.bel⟩; have z1 := x1.out; simp; omega)
set_option maxRecDepth 100000 in
set_option maxHeartbeats 1000000 in
theorem kb_yyy (a0 a1 a2 a3 : Int) (a b : Addr) (w : World) (hK : KW a b w w) (h3 : Hid (rightB 1 0 0 0 a3 = true)) (h1 : Hid (rightB 2 a0 a1 a2 a3 = true)) (x10 : 0 ≤ a1) (x11 : a1 ≤ 1048575) (x12 : 0 ≤ a0) (x13 : a0 < 256) (x14 : 0 ≤ a2) (x15 : a2 ≤ 7) (x16 : a3 ≤ 4) (h2 : Hid (rightB 5 a0 a1 0 a3 = true)) (x20 : 0 ≤ a1) (x21 : a1 ≤ 1048575) (x22 : 0 ≤ a0) (x23 : a0 < 32) (x24 : a3 ≤ 536870911) (h4 : Hid (rightB 0 a0 0 0 0 = true)) (h5 : (a0 == 0) = true) (y0 : 0 ≤ a0) (y1 : a0 ≤ 0) :
    Calls Tryd.prog 10 #[.int .i64 a0, .int .i64 a1, .int .i64 a2, .int .u32 a3] w fun e w' => e = .returned (.bool true) ∧ Below w.heap.size w w' := by
  go_enter Tryd.func10, Tryd.ntmps10
  go_wp2_with (first | (go_at_call 26; refine (kfirst_any _ hK.2.2.1 hK.2.2.2).mono ?_; rintro e w1 ⟨rfl, hb⟩; replace hK := hK.step hb; clear hb) | (go_at_call 32; (with_reducible refine (kvalid_ok _ _ _ _ _ _ _ h1 _ hK.errs).mono ?_); rintro e w1 ⟨rfl, hb⟩; replace hK := hK.step hb; clear hb) | (go_at_call 32; (with_reducible refine (kvalid_ok _ _ _ _ _ _ _ h2 _ hK.errs).mono ?_); rintro e w1 ⟨rfl, hb⟩; replace hK := hK.step hb; clear hb) | (go_at_call 32; (with_reducible refine (kvalid_ok _ _ _ _ _ _ _ h3 _ hK.errs).mono ?_); rintro e w1 ⟨rfl, hb⟩; replace hK := hK.step hb; clear hb) | (go_at_call 32; (with_reducible refine (kvalid_ok _ _ _ _ _ _ _ h4 _ hK.errs).mono ?_); rintro e w1 ⟨rfl, hb⟩; replace hK := hK.step hb; clear hb) | (go_at_call 39; refine (knum_is _ _).mono ?_; rintro e w1 ⟨rfl, hb⟩; replace hK := hK.step hb; clear hb))
  all_goals first | (exfalso; omega) | (go_ret; exact ⟨rfl, hK.bel⟩) | (go_ret; refine ⟨?_, hK.bel⟩; simp; omega)
theorem rightB_node (a0 a1 a2 a3 : Int) : rightB 2 a0 a1 a2 a3 = decide (0 ≤ a1 ∧ a1 ≤ 1048575 ∧ 0 ≤ a0 ∧ a0 < 256 ∧ 0 ≤ a2 ∧ a2 ≤ 7 ∧ a3 ≤ 4) := by
  have e : rightB 2 a0 a1 a2 a3 = (wB a0 255 && (wB a1 1048575 && (wB a2 7 && decide (a3 ≤ 4)))) := rfl
  rw [e, Bool.eq_iff_iff]
  simp [wB]
  omega
theorem rightB_start (a0 a1 a3 : Int) : rightB 5 a0 a1 0 a3 = decide (0 ≤ a1 ∧ a1 ≤ 1048575 ∧ 0 ≤ a0 ∧ a0 < 32 ∧ a3 ≤ 536870911) := by
  have e : rightB 5 a0 a1 0 a3 = (wB a0 31 && (wB a1 1048575 && (wB 0 0 && decide (a3 ≤ 536870911)))) := rfl
  rw [e, Bool.eq_iff_iff]
  simp [wB]
  omega
theorem rightB_void (a0 : Int) : rightB 0 a0 0 0 0 = (a0 == 0) := by
  have e : rightB 0 a0 0 0 0 = (wB a0 0 && (wB 0 0 && (wB 0 0 && decide ((0 : Int) ≤ 0)))) := rfl
  rw [e, Bool.eq_iff_iff]
  simp [wB]
  omega
theorem rightB_num (a3 : Int) (h : a3 ≤ 4294967295) : rightB 1 0 0 0 a3 = true := by
  have e : rightB 1 0 0 0 a3 = (wB 0 0 && (wB 0 0 && (wB 0 0 && decide (a3 ≤ 4294967295)))) := rfl
  rw [e]
  simp [wB, h]
theorem kb_any (a0 a1 a2 a3 : Int) (a b : Addr) (w : World) (hK : KW a b w w) (h : a3 ≤ 4294967295) :
    Calls Tryd.prog 10 #[.int .i64 a0, .int .i64 a1, .int .i64 a2, .int .u32 a3] w fun e w' => e = .returned (.bool true) ∧ Below w.heap.size w w' := by
  have h3 := Lib.hid (rightB_num a3 h)
  have e1 := rightB_node a0 a1 a2 a3
  have e2 := rightB_start a0 a1 a3
  have e4 := rightB_void a0
  by_cases c1 : 0 ≤ a1 ∧ a1 ≤ 1048575 ∧ 0 ≤ a0 ∧ a0 < 256 ∧ 0 ≤ a2 ∧ a2 ≤ 7 ∧ a3 ≤ 4 <;> by_cases c2 : 0 ≤ a1 ∧ a1 ≤ 1048575 ∧ 0 ≤ a0 ∧ a0 < 32 ∧ a3 ≤ 536870911 <;> by_cases c4 : (a0 == 0) = true
  · exact kb_yyy a0 a1 a2 a3 a b w hK h3 (Lib.hid (by rw [e1]; simpa using c1)) c1.1 c1.2.1 c1.2.2.1 c1.2.2.2.1 c1.2.2.2.2.1 c1.2.2.2.2.2.1 c1.2.2.2.2.2.2 (Lib.hid (by rw [e2]; simpa using c2)) c2.1 c2.2.1 c2.2.2.1 c2.2.2.2.1 c2.2.2.2.2 (Lib.hid (by rw [e4]; simpa using c4)) (by simpa using c4) (by simp at c4; omega) (by simp at c4; omega)
  · exact kb_yyn a0 a1 a2 a3 a b w hK h3 (Lib.hid (by rw [e1]; simpa using c1)) c1.1 c1.2.1 c1.2.2.1 c1.2.2.2.1 c1.2.2.2.2.1 c1.2.2.2.2.2.1 c1.2.2.2.2.2.2 (Lib.hid (by rw [e2]; simpa using c2)) c2.1 c2.2.1 c2.2.2.1 c2.2.2.2.1 c2.2.2.2.2 (Lib.hid (by rw [e4]; simpa using c4)) (by simpa using c4)
  · exact kb_yny a0 a1 a2 a3 a b w hK h3 (Lib.hid (by rw [e1]; simpa using c1)) c1.1 c1.2.1 c1.2.2.1 c1.2.2.2.1 c1.2.2.2.2.1 c1.2.2.2.2.2.1 c1.2.2.2.2.2.2 (Lib.hid (by rw [e2]; simpa using c2)) (Lib.hid c2) (Lib.hid (by rw [e4]; simpa using c4)) (by simpa using c4) (by simp at c4; omega) (by simp at c4; omega)
  · exact kb_ynn a0 a1 a2 a3 a b w hK h3 (Lib.hid (by rw [e1]; simpa using c1)) c1.1 c1.2.1 c1.2.2.1 c1.2.2.2.1 c1.2.2.2.2.1 c1.2.2.2.2.2.1 c1.2.2.2.2.2.2 (Lib.hid (by rw [e2]; simpa using c2)) (Lib.hid c2) (Lib.hid (by rw [e4]; simpa using c4)) (by simpa using c4)
  · exact kb_nyy a0 a1 a2 a3 a b w hK h3 (Lib.hid (by rw [e1]; simpa using c1)) (Lib.hid c1) (Lib.hid (by rw [e2]; simpa using c2)) c2.1 c2.2.1 c2.2.2.1 c2.2.2.2.1 c2.2.2.2.2 (Lib.hid (by rw [e4]; simpa using c4)) (by simpa using c4) (by simp at c4; omega) (by simp at c4; omega)
  · exact kb_nyn a0 a1 a2 a3 a b w hK h3 (Lib.hid (by rw [e1]; simpa using c1)) (Lib.hid c1) (Lib.hid (by rw [e2]; simpa using c2)) c2.1 c2.2.1 c2.2.2.1 c2.2.2.2.1 c2.2.2.2.2 (Lib.hid (by rw [e4]; simpa using c4)) (by simpa using c4)
  · exact kb_nny a0 a1 a2 a3 a b w hK h3 (Lib.hid (by rw [e1]; simpa using c1)) (Lib.hid c1) (Lib.hid (by rw [e2]; simpa using c2)) (Lib.hid c2) (Lib.hid (by rw [e4]; simpa using c4)) (by simpa using c4) (by simp at c4; omega) (by simp at c4; omega)
  · exact kb_nnn a0 a1 a2 a3 a b w hK h3 (Lib.hid (by rw [e1]; simpa using c1)) (Lib.hid c1) (Lib.hid (by rw [e2]; simpa using c2)) (Lib.hid c2) (Lib.hid (by rw [e4]; simpa using c4)) (by simpa using c4)
end Go.Proofs.YtggnaalcdekccaaDoor
