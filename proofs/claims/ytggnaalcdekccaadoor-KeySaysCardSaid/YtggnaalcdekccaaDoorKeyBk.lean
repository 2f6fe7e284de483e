import Derived.Test.YtggnaalcdekccaaDoorKeyPack
namespace Go.Proofs.YtggnaalcdekccaaDoor
open Go.ChangeShapes Go.WideShapes Go.ChangeAt Go.RowKit
set_option linter.unusedVariables false
theorem and_mod (i : Nat) (x : Int) (m : Int) (hx : 0 ≤ x) (hx' : x < 4294967296) (hm : m = ((2 ^ i - 1 : Nat) : Int)) (hi : i < 32) : bits BinOp.and IntKind.u32 x m = x % ((2 ^ i : Nat) : Int) := by
  have h2 : 2 ^ i - 1 < 4294967296 := Nat.lt_of_lt_of_le (Nat.sub_lt (Nat.two_pow_pos i) (by decide)) (Nat.pow_le_pow_right (by decide) (by omega : i ≤ 32))
  rw [u32_and x m hx hx' (by omega) (by omega), hm, Int.toNat_natCast, Nat.and_two_pow_sub_one_eq_mod]
  have h1 : x = (x.toNat : Int) := by omega
  rw [Int.natCast_emod, ← h1]
/-- The parts of two words. -/
def Parts (lo hi p0 p1 p2 p3 p4 : Int) : Prop := lo / 268435456 = p0 ∧ lo / 1048576 % 256 = p1 ∧ lo % 1048576 = p2 ∧ ((p0 = 1 ∧ p3 = 0 ∧ p4 = hi) ∨ (¬ p0 = 1 ∧ hi / 536870912 = p3 ∧ hi % 536870912 = p4))
theorem kunpack_ok (lo hi p0 p1 p2 p3 p4 : Int) (a b : Addr) (w : World) (hE : ErrsAt (errV a) (errV b) w) (g0 : 0 ≤ lo) (g1 : lo ≤ 4294967295) (g2 : 0 ≤ hi) (g3 : hi ≤ 4294967295) (hp : Hid (Parts lo hi p0 p1 p2 p3 p4)) (h : Hid (rightB p0 p1 p2 p3 p4 = true)) :
    Calls Tryd.prog 29 #[.int .u32 lo, .int .u32 hi] w fun e w' => e = .returned (.tuple #[(Value.agg #[.int .i64 p0, .int .i64 p1, .int .i64 p2, .int .i64 p3, .int .u32 p4]), .nilIface]) ∧ Below w.heap.size w w' := by
  obtain ⟨e0, e1, e2, ho⟩ := hp.out
  have m1 : bits BinOp.and IntKind.u32 (lo / 1048576) 255 = p1 := by rw [and_mod 8 _ 255 (by omega) (by omega) (by decide) (by decide)]; exact e1
  have m2 : bits BinOp.and IntKind.u32 lo 1048575 = p2 := by rw [and_mod 20 _ 1048575 (by omega) (by omega) (by decide) (by decide)]; exact e2
  rcases ho with ⟨rfl, rfl, rfl⟩ | ⟨n0, e3, e4⟩
  · exact kunpack_n_ok lo _ p1 p2 a b w hE g0 g1 g2 g3 m1 m2 (by omega) (by omega) (by omega) (by omega) e0 h
  · have m3 : bits BinOp.and IntKind.u32 hi 536870911 = p4 := by rw [and_mod 29 _ 536870911 (by omega) (by omega) (by decide) (by decide)]; exact e4
    exact kunpack_a_ok lo hi p0 p1 p2 p3 p4 a b w hE g0 g1 g2 g3 m1 m2 (by omega) (by omega) (by omega) (by omega) (by omega) (by omega) e0 (by simpa using n0) e3 m3 (by omega) (by omega) h
theorem kunpack_bad (lo hi p0 p1 p2 p3 p4 : Int) (a b : Addr) (w : World) (hE : ErrsAt (errV a) (errV b) w) (g0 : 0 ≤ lo) (g1 : lo ≤ 4294967295) (g2 : 0 ≤ hi) (g3 : hi ≤ 4294967295) (hp : Hid (Parts lo hi p0 p1 p2 p3 p4)) (h : Hid (rightB p0 p1 p2 p3 p4 = false)) :
    Calls Tryd.prog 29 #[.int .u32 lo, .int .u32 hi] w fun e w' => ∃ c : Addr, e = .returned (.tuple #[.agg #[.int .i64 0, .int .i64 0, .int .i64 0, .int .i64 0, .int .u32 0], errV c]) ∧ Below w.heap.size w w' := by
  obtain ⟨e0, e1, e2, ho⟩ := hp.out
  have m1 : bits BinOp.and IntKind.u32 (lo / 1048576) 255 = p1 := by rw [and_mod 8 _ 255 (by omega) (by omega) (by decide) (by decide)]; exact e1
  have m2 : bits BinOp.and IntKind.u32 lo 1048575 = p2 := by rw [and_mod 20 _ 1048575 (by omega) (by omega) (by decide) (by decide)]; exact e2
  rcases ho with ⟨rfl, rfl, rfl⟩ | ⟨n0, e3, e4⟩
  · exact kunpack_n_bad lo _ p1 p2 a b w hE g0 g1 g2 g3 m1 m2 (by omega) (by omega) (by omega) (by omega) e0 h
  · have m3 : bits BinOp.and IntKind.u32 hi 536870911 = p4 := by rw [and_mod 29 _ 536870911 (by omega) (by omega) (by decide) (by decide)]; exact e4
    exact kunpack_a_bad lo hi p0 p1 p2 p3 p4 a b w hE g0 g1 g2 g3 m1 m2 (by omega) (by omega) (by omega) (by omega) (by omega) (by omega) e0 (by simpa using n0) e3 m3 (by omega) (by omega) h
theorem parts_of_pack {k0 k1 k2 k3 k4 : Int} (h : rightB k0 k1 k2 k3 k4 = true) (g8 : 0 ≤ k4) (g9 : k4 ≤ 4294967295) :
    Parts (packLo k0 k1 k2) (packHi k3 k4) k0 k1 k2 k3 k4 ∧ 0 ≤ packLo k0 k1 k2 ∧ packLo k0 k1 k2 ≤ 4294967295 ∧ 0 ≤ packHi k3 k4 ∧ packHi k3 k4 ≤ 4294967295 := by
  have := right_bounds h
  unfold Parts packLo packHi
  omega
theorem pack_of_parts {lo hi p0 p1 p2 p3 p4 : Int} (h : Parts lo hi p0 p1 p2 p3 p4) : packLo p0 p1 p2 = lo ∧ packHi p3 p4 = hi := by
  unfold Parts at h
  unfold packLo packHi
  omega
theorem parts_are (lo hi : Int) : ∃ p0 p1 p2 p3 p4, Parts lo hi p0 p1 p2 p3 p4 := by
  by_cases h : lo / 268435456 = 1
  · exact ⟨_, _, _, 0, hi, rfl, rfl, rfl, .inl ⟨h, rfl, rfl⟩⟩
  · exact ⟨_, _, _, _, _, rfl, rfl, rfl, .inr ⟨h, rfl, rfl⟩⟩
theorem parts_data {lo hi p0 p1 p2 p3 p4 : Int} (h : Parts lo hi p0 p1 p2 p3 p4) (g0 : 0 ≤ hi) (g1 : hi ≤ 4294967295) : 0 ≤ p4 ∧ p4 ≤ 4294967295 := by
  unfold Parts at h
  omega
theorem kpack_is (k0 k1 k2 k3 k4 : Int) (l h : Int) (a b : Addr) (w : World) (hE : ErrsAt (errV a) (errV b) w) (hr : Hid (rightB k0 k1 k2 k3 k4 = true)) (g8 : 0 ≤ k4) (g9 : k4 ≤ 4294967295) (h1 : Hid (packLo k0 k1 k2 = l)) (h2 : Hid (packHi k3 k4 = h)) :
    Calls Tryd.prog 28 #[(Value.agg #[.int .i64 k0, .int .i64 k1, .int .i64 k2, .int .i64 k3, .int .u32 k4])] w fun e w' => e = .returned (.tuple #[.int .u32 l, .int .u32 h, .nilIface]) ∧ Below w.heap.size w w' := by
  rw [← h1.out, ← h2.out]; exact kpack_ok k0 k1 k2 k3 k4 a b w hE hr g8 g9
theorem samekey_is (k0 k1 k2 k3 k4 : Int) (r0 r1 r2 r3 r4 : Int) (t : Bool) (h : Hid (sameB k0 k1 k2 k3 k4 r0 r1 r2 r3 r4 = t)) (w : World) :
    Calls Tryd.prog 33 #[(Value.agg #[.int .i64 k0, .int .i64 k1, .int .i64 k2, .int .i64 k3, .int .u32 k4]), (Value.agg #[.int .i64 r0, .int .i64 r1, .int .i64 r2, .int .i64 r3, .int .u32 r4])] w fun e w' => e = .returned (.bool t) ∧ Below w.heap.size w w' := by
  rw [← h.out]; exact samekey_any _ _ _ _ _ _ _ _ _ _ w
theorem same_self (k0 k1 k2 k3 k4 : Int) : Hid (sameB k0 k1 k2 k3 k4 k0 k1 k2 k3 k4 = true) := Lib.hid (by simp [sameB])
def KQ (a b : Addr) (B : Nat) (k0 k1 k2 k3 k4 : Int) (W w : World) : Prop := KW a b W w ∧ (B < w.heap.size ∧ w.cell? ⟨B, 0, none⟩ = some (.int .i64 k0) ∧ w.cell? ⟨B, 1, none⟩ = some (.int .i64 k1) ∧ w.cell? ⟨B, 2, none⟩ = some (.int .i64 k2) ∧ w.cell? ⟨B, 3, none⟩ = some (.int .i64 k3) ∧ w.cell? ⟨B, 4, none⟩ = some (.int .u32 k4))
theorem KQ.step {a b : Addr} {B : Nat} {k0 k1 k2 k3 k4 : Int} {W w w' : World} (h : KQ a b B k0 k1 k2 k3 k4 W w) (hb : Below w.heap.size w w') : KQ a b B k0 k1 k2 k3 k4 W w' := ⟨h.1.step hb, keepk h.2 hb⟩
theorem KQ.alloc {a b : Addr} {B : Nat} {k0 k1 k2 k3 k4 : Int} {W w : World} (h : KQ a b B k0 k1 k2 k3 k4 W w) (o : Obj) : KQ a b B k0 k1 k2 k3 k4 W (w.alloc o) := h.step ((Below.refl _ _).alloc (Nat.le_refl _) o)
theorem KQ.errs {a b : Addr} {B : Nat} {k0 k1 k2 k3 k4 : Int} {W w : World} (h : KQ a b B k0 k1 k2 k3 k4 W w) : ErrsAt (errV a) (errV b) w := h.1.errs
theorem KQ.bel {a b : Addr} {B : Nat} {k0 k1 k2 k3 k4 : Int} {W w : World} (h : KQ a b B k0 k1 k2 k3 k4 W w) : Below W.heap.size W w := h.1.1
theorem KQ.box {a b : Addr} {B : Nat} {k0 k1 k2 k3 k4 : Int} {W w : World} (h : KQ a b B k0 k1 k2 k3 k4 W w) : B < w.heap.size ∧ w.cell? ⟨B, 0, none⟩ = some (.int .i64 k0) ∧ w.cell? ⟨B, 1, none⟩ = some (.int .i64 k1) ∧ w.cell? ⟨B, 2, none⟩ = some (.int .i64 k2) ∧ w.cell? ⟨B, 3, none⟩ = some (.int .i64 k3) ∧ w.cell? ⟨B, 4, none⟩ = some (.int .u32 k4) := h.2
theorem KQ.first {a b : Addr} {B : Nat} {k0 k1 k2 k3 k4 : Int} {W w : World} (h : KQ a b B k0 k1 k2 k3 k4 W w) : Calls Tryd.prog 26 #[] w fun e w' => e = .returned (.bool true) ∧ Below w.heap.size w w' := kfirst_any w h.1.2.2.1 h.1.2.2.2
theorem KQ.start {a b : Addr} {w : World} (hK : KW a b w w) (k0 k1 k2 k3 k4 : Int) : KQ a b w.heap.size k0 k1 k2 k3 k4 w (w.alloc (.cells #[.int .i64 k0, .int .i64 k1, .int .i64 k2, .int .i64 k3, .int .u32 k4] 47)) :=
  ⟨hK.step ((Below.refl _ _).alloc (Nat.le_refl _) _ : Below w.heap.size w (w.alloc _)), by simp, by simp, by simp, by simp, by simp, by simp⟩
set_option maxRecDepth 100000 in
set_option maxHeartbeats 1000000 in
theorem back_yy (k0 k1 k2 k3 k4 : Int) (lo hi p0 p1 p2 p3 p4 : Int) (a b : Addr) (w : World) (hK : KW a b w w) (y0 : 0 ≤ lo) (y1 : lo ≤ 4294967295) (y2 : 0 ≤ hi) (y3 : hi ≤ 4294967295) (hy : Hid (Parts lo hi p0 p1 p2 p3 p4)) (l h : Int) (hr : Hid (rightB k0 k1 k2 k3 k4 = true)) (g8 : 0 ≤ k4) (g9 : k4 ≤ 4294967295) (hl : Hid (packLo k0 k1 k2 = l)) (hh : Hid (packHi k3 k4 = h)) (x0 : 0 ≤ l) (x1 : l ≤ 4294967295) (x2 : 0 ≤ h) (x3 : h ≤ 4294967295) (hx : Hid (Parts l h k0 k1 k2 k3 k4)) (hs : Hid (rightB p0 p1 p2 p3 p4 = true)) (z0 : 0 ≤ p4) (z1 : p4 ≤ 4294967295) (zl : Hid (packLo p0 p1 p2 = lo)) (zh : Hid (packHi p3 p4 = hi)) : Calls Tryd.prog 8 #[(Value.agg #[.int .i64 k0, .int .i64 k1, .int .i64 k2, .int .i64 k3, .int .u32 k4]), .int .u32 lo, .int .u32 hi] w fun e w' => e = .returned (.bool true) ∧ Below w.heap.size w w' := by
  have hQ := KQ.start hK k0 k1 k2 k3 k4
  clear hK
  go_enter Tryd.func8, Tryd.ntmps8
  go_wp2_with (first | (go_at_call 26; refine hQ.first.mono ?_; rintro e w1 ⟨rfl, hb⟩; replace hQ := hQ.step hb; have hk := hQ.box; clear hb) | (go_at_call 28; (with_reducible refine (kpack_is _ _ _ _ _ l h _ _ _ hQ.errs hr g8 g9 hl hh).mono ?_); rintro e w2 ⟨rfl, hb⟩; clear hk; replace hQ := hQ.step hb; have hk := hQ.box; clear hb) | (go_at_call 29; (with_reducible refine (kunpack_ok l h _ _ _ _ _ _ _ _ hQ.errs x0 x1 x2 x3 hx hr).mono ?_); rintro e w3 ⟨rfl, hb⟩; clear hk; replace hQ := hQ.step hb; have hk := hQ.box; clear hb) | (go_at_call 33; (with_reducible refine (samekey_is _ _ _ _ _ _ _ _ _ _ _ (same_self k0 k1 k2 k3 k4) _).mono ?_); rintro e w4 ⟨rfl, hb⟩; clear hk; replace hQ := (hQ.alloc _).step hb; have hk := hQ.box; clear hb) | (go_at_call 29; (with_reducible refine (kunpack_ok lo hi _ _ _ _ _ _ _ _ hQ.errs y0 y1 y2 y3 hy hs).mono ?_); rintro e w5 ⟨rfl, hb⟩; clear hk; replace hQ := hQ.step hb; clear hb) | (go_at_call 28; (with_reducible refine (kpack_is _ _ _ _ _ lo hi _ _ _ (hQ.alloc _).errs hs z0 z1 zl zh).mono ?_); rintro e w6 ⟨rfl, hb⟩; have hyk := keepk (k0 := p0) (k1 := p1) (k2 := p2) (k3 := p3) (k4 := p4) (b := w5.heap.size) ⟨by simp, by simp, by simp, by simp, by simp, by simp⟩ hb; replace hQ := (hQ.alloc _).step hb; clear hb) | (go_at_call 32; (with_reducible refine (kvalid_ok _ _ _ _ _ _ _ hs _ hQ.errs).mono ?_); rintro e w7 ⟨rfl, hb⟩; clear hyk; replace hQ := hQ.step hb; clear hb))
  go_ret
  exact ⟨rfl, hQ.bel⟩
set_option maxRecDepth 100000 in
set_option maxHeartbeats 1000000 in
theorem back_yn (k0 k1 k2 k3 k4 : Int) (lo hi p0 p1 p2 p3 p4 : Int) (a b : Addr) (w : World) (hK : KW a b w w) (y0 : 0 ≤ lo) (y1 : lo ≤ 4294967295) (y2 : 0 ≤ hi) (y3 : hi ≤ 4294967295) (hy : Hid (Parts lo hi p0 p1 p2 p3 p4)) (l h : Int) (hr : Hid (rightB k0 k1 k2 k3 k4 = true)) (g8 : 0 ≤ k4) (g9 : k4 ≤ 4294967295) (hl : Hid (packLo k0 k1 k2 = l)) (hh : Hid (packHi k3 k4 = h)) (x0 : 0 ≤ l) (x1 : l ≤ 4294967295) (x2 : 0 ≤ h) (x3 : h ≤ 4294967295) (hx : Hid (Parts l h k0 k1 k2 k3 k4)) (hs : Hid (rightB p0 p1 p2 p3 p4 = false)) : Calls Tryd.prog 8 #[(Value.agg #[.int .i64 k0, .int .i64 k1, .int .i64 k2, .int .i64 k3, .int .u32 k4]), .int .u32 lo, .int .u32 hi] w fun e w' => e = .returned (.bool true) ∧ Below w.heap.size w w' := by
  have hQ := KQ.start hK k0 k1 k2 k3 k4
  clear hK
  go_enter Tryd.func8, Tryd.ntmps8
  go_wp2_with (first | (go_at_call 26; refine hQ.first.mono ?_; rintro e w1 ⟨rfl, hb⟩; replace hQ := hQ.step hb; have hk := hQ.box; clear hb) | (go_at_call 28; (with_reducible refine (kpack_is _ _ _ _ _ l h _ _ _ hQ.errs hr g8 g9 hl hh).mono ?_); rintro e w2 ⟨rfl, hb⟩; clear hk; replace hQ := hQ.step hb; have hk := hQ.box; clear hb) | (go_at_call 29; (with_reducible refine (kunpack_ok l h _ _ _ _ _ _ _ _ hQ.errs x0 x1 x2 x3 hx hr).mono ?_); rintro e w3 ⟨rfl, hb⟩; clear hk; replace hQ := hQ.step hb; have hk := hQ.box; clear hb) | (go_at_call 33; (with_reducible refine (samekey_is _ _ _ _ _ _ _ _ _ _ _ (same_self k0 k1 k2 k3 k4) _).mono ?_); rintro e w4 ⟨rfl, hb⟩; clear hk; replace hQ := (hQ.alloc _).step hb; have hk := hQ.box; clear hb) | (go_at_call 29; (with_reducible refine (kunpack_bad lo hi _ _ _ _ _ _ _ _ hQ.errs y0 y1 y2 y3 hy hs).mono ?_); rintro e w5 ⟨c, rfl, hb⟩; clear hk; replace hQ := hQ.step hb; clear hb) | (go_at_call 33; (with_reducible refine (samekey_is _ _ _ _ _ _ _ _ _ _ _ (same_self 0 0 0 0 0) _).mono ?_); rintro e w6 ⟨rfl, hb⟩; replace hQ := (hQ.alloc _).step hb; clear hb))
  go_ret
  exact ⟨rfl, hQ.bel⟩
set_option maxRecDepth 100000 in
set_option maxHeartbeats 1000000 in
theorem back_ny (k0 k1 k2 k3 k4 : Int) (lo hi p0 p1 p2 p3 p4 : Int) (a b : Addr) (w : World) (hK : KW a b w w) (y0 : 0 ≤ lo) (y1 : lo ≤ 4294967295) (y2 : 0 ≤ hi) (y3 : hi ≤ 4294967295) (hy : Hid (Parts lo hi p0 p1 p2 p3 p4)) (hr : Hid (rightB k0 k1 k2 k3 k4 = false)) (hs : Hid (rightB p0 p1 p2 p3 p4 = true)) (z0 : 0 ≤ p4) (z1 : p4 ≤ 4294967295) (zl : Hid (packLo p0 p1 p2 = lo)) (zh : Hid (packHi p3 p4 = hi)) : Calls Tryd.prog 8 #[(Value.agg #[.int .i64 k0, .int .i64 k1, .int .i64 k2, .int .i64 k3, .int .u32 k4]), .int .u32 lo, .int .u32 hi] w fun e w' => e = .returned (.bool true) ∧ Below w.heap.size w w' := by
  have hQ := KQ.start hK k0 k1 k2 k3 k4
  clear hK
  go_enter Tryd.func8, Tryd.ntmps8
  go_wp2_with (first | (go_at_call 26; refine hQ.first.mono ?_; rintro e w1 ⟨rfl, hb⟩; replace hQ := hQ.step hb; have hk := hQ.box; clear hb) | (go_at_call 28; (with_reducible refine (kpack_bad _ _ _ _ _ _ _ _ hQ.errs hr).mono ?_); rintro e w2 ⟨c, rfl, hb⟩; clear hk; replace hQ := hQ.step hb; have hk := hQ.box; clear hb) | (go_at_call 29; (with_reducible refine (kunpack_ok lo hi _ _ _ _ _ _ _ _ hQ.errs y0 y1 y2 y3 hy hs).mono ?_); rintro e w5 ⟨rfl, hb⟩; clear hk; replace hQ := hQ.step hb; clear hb) | (go_at_call 28; (with_reducible refine (kpack_is _ _ _ _ _ lo hi _ _ _ (hQ.alloc _).errs hs z0 z1 zl zh).mono ?_); rintro e w6 ⟨rfl, hb⟩; have hyk := keepk (k0 := p0) (k1 := p1) (k2 := p2) (k3 := p3) (k4 := p4) (b := w5.heap.size) ⟨by simp, by simp, by simp, by simp, by simp, by simp⟩ hb; replace hQ := (hQ.alloc _).step hb; clear hb) | (go_at_call 32; (with_reducible refine (kvalid_ok _ _ _ _ _ _ _ hs _ hQ.errs).mono ?_); rintro e w7 ⟨rfl, hb⟩; clear hyk; replace hQ := hQ.step hb; clear hb))
  go_ret
  exact ⟨rfl, hQ.bel⟩
set_option maxRecDepth 100000 in
set_option maxHeartbeats 1000000 in
theorem back_nn (k0 k1 k2 k3 k4 : Int) (lo hi p0 p1 p2 p3 p4 : Int) (a b : Addr) (w : World) (hK : KW a b w w) (y0 : 0 ≤ lo) (y1 : lo ≤ 4294967295) (y2 : 0 ≤ hi) (y3 : hi ≤ 4294967295) (hy : Hid (Parts lo hi p0 p1 p2 p3 p4)) (hr : Hid (rightB k0 k1 k2 k3 k4 = false)) (hs : Hid (rightB p0 p1 p2 p3 p4 = false)) : Calls Tryd.prog 8 #[(Value.agg #[.int .i64 k0, .int .i64 k1, .int .i64 k2, .int .i64 k3, .int .u32 k4]), .int .u32 lo, .int .u32 hi] w fun e w' => e = .returned (.bool true) ∧ Below w.heap.size w w' := by
  have hQ := KQ.start hK k0 k1 k2 k3 k4
  clear hK
  go_enter Tryd.func8, Tryd.ntmps8
  go_wp2_with (first | (go_at_call 26; refine hQ.first.mono ?_; rintro e w1 ⟨rfl, hb⟩; replace hQ := hQ.step hb; have hk := hQ.box; clear hb) | (go_at_call 28; (with_reducible refine (kpack_bad _ _ _ _ _ _ _ _ hQ.errs hr).mono ?_); rintro e w2 ⟨c, rfl, hb⟩; clear hk; replace hQ := hQ.step hb; have hk := hQ.box; clear hb) | (go_at_call 29; (with_reducible refine (kunpack_bad lo hi _ _ _ _ _ _ _ _ hQ.errs y0 y1 y2 y3 hy hs).mono ?_); rintro e w5 ⟨c, rfl, hb⟩; clear hk; replace hQ := hQ.step hb; clear hb) | (go_at_call 33; (with_reducible refine (samekey_is _ _ _ _ _ _ _ _ _ _ _ (same_self 0 0 0 0 0) _).mono ?_); rintro e w6 ⟨rfl, hb⟩; replace hQ := (hQ.alloc _).step hb; clear hb))
  go_ret
  exact ⟨rfl, hQ.bel⟩
theorem back_any (k0 k1 k2 k3 k4 : Int) (lo hi : Int) (a b : Addr) (w : World) (hK : KW a b w w) (g8 : 0 ≤ k4) (g9 : k4 ≤ 4294967295) (y0 : 0 ≤ lo) (y1 : lo ≤ 4294967295) (y2 : 0 ≤ hi) (y3 : hi ≤ 4294967295) : Calls Tryd.prog 8 #[(Value.agg #[.int .i64 k0, .int .i64 k1, .int .i64 k2, .int .i64 k3, .int .u32 k4]), .int .u32 lo, .int .u32 hi] w fun e w' => e = .returned (.bool true) ∧ Below w.heap.size w w' := by
  obtain ⟨p0, p1, p2, p3, p4, hy⟩ := parts_are lo hi
  obtain ⟨z0, z1⟩ := parts_data hy y2 y3
  obtain ⟨zl, zh⟩ := pack_of_parts hy
  cases hr : rightB k0 k1 k2 k3 k4 <;> cases hs : rightB p0 p1 p2 p3 p4
  · exact back_nn k0 k1 k2 k3 k4 lo hi p0 p1 p2 p3 p4 a b w hK y0 y1 y2 y3 (Lib.hid hy) (Lib.hid hr) (Lib.hid hs)
  · exact back_ny k0 k1 k2 k3 k4 lo hi p0 p1 p2 p3 p4 a b w hK y0 y1 y2 y3 (Lib.hid hy) (Lib.hid hr) (Lib.hid hs) z0 z1 (Lib.hid zl) (Lib.hid zh)
  · obtain ⟨hx, x0, x1, x2, x3⟩ := parts_of_pack hr g8 g9
    exact back_yn k0 k1 k2 k3 k4 lo hi p0 p1 p2 p3 p4 a b w hK y0 y1 y2 y3 (Lib.hid hy) _ _ (Lib.hid hr) g8 g9 (Lib.hid rfl) (Lib.hid rfl) x0 x1 x2 x3 (Lib.hid hx) (Lib.hid hs)
  · obtain ⟨hx, x0, x1, x2, x3⟩ := parts_of_pack hr g8 g9
    exact back_yy k0 k1 k2 k3 k4 lo hi p0 p1 p2 p3 p4 a b w hK y0 y1 y2 y3 (Lib.hid hy) _ _ (Lib.hid hr) g8 g9 (Lib.hid rfl) (Lib.hid rfl) x0 x1 x2 x3 (Lib.hid hx) (Lib.hid hs) z0 z1 (Lib.hid zl) (Lib.hid zh)
end Go.Proofs.YtggnaalcdekccaaDoor
