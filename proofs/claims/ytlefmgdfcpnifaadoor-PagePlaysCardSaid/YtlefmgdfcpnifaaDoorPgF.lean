/-
  chapter 5's first; PageFresh.
-/
import Derived.Test.YtlefmgdfcpnifaaDoorPg2
namespace Go.Proofs.YtlefmgdfcpnifaaDoor
open Go.ChangeShapes Go.WideShapes Go.ChangeAt Go.RowKit
set_option linter.unusedVariables false
theorem pmake_at {base P p B G n c : Nat} {th : Nat → Bool} {vr : Nat → Int} {W : Nat → Nat → Int} (id : Int) (a : Option Addr) (m c2 : Nat) (xs : List Int) (hm : Hid (xs.length = m)) (hx : m ≤ 32) (j : Nat) (hid : Hid (id = j)) (hj : j < n) (hyes : Hid (freeB th vr j = true)) (hno : Hid (∀ i, i < j → freeB th vr i = false)) (v : Int) (hv : Hid (vr j = v)) (w : World) (h : PgAt w base P p B G n c th vr W) (hs : SrcU w a xs B G) :
    Calls Tryd.prog 31 #[.pointer (some ⟨P, 0, none⟩), .slice a m c2] w fun e w' => e = .returned (.tuple #[.int .i64 id, .int .i64 v, .nilIface]) ∧ PgAt w' base P p B G n c (upd th j true) vr (fresh W j xs) ∧ PBelow w w' B G := by
  rw [hid.out]; exact pmake_ok a m c2 xs hm hx j hj hyes hno v hv w h hs
theorem pread_at {base P p B G n c : Nat} {th : Nat → Bool} {vr : Nat → Int} {W : Nat → Nat → Int} (kk aa : Int) (k at_ : Nat) (hkk : Hid (kk = k)) (haa : Hid (aa = at_)) (hk : k < n) (ha : at_ < 32) (ht : Hid (th k = true)) (x : Int) (hx : Hid (W k at_ = x)) (w : World) (h : PgAt w base P p B G n c th vr W) :
    Calls Tryd.prog 33 #[.pointer (some ⟨P, 0, none⟩), .int .i64 kk, .int .i64 aa] w fun e w' => e = .returned (.tuple #[.int .u32 x, .bool true]) ∧ w = w' := by
  rw [hkk.out, haa.out]; exact pread_is k at_ hk ha ht x hx w h
theorem rep0 (n j : Nat) : (List.replicate n (0 : Int)).getD j 0 = 0 := by
  simp only [List.getD, List.getElem?_replicate]
  split <;> rfl
theorem fresh_at (W : Nat → Nat → Int) (i : Nat) (xs : List Int) (j : Nat) (hj : j < 32) : fresh W i xs i j = if j < xs.length then xs.getD j 0 else 0 := by
  by_cases h : j < xs.length
  · simp [fresh, updW, h]
  · rw [if_neg h]
    unfold fresh updW
    rw [if_neg (fun e => h e.2), if_pos ⟨rfl, by simpa using hj⟩, rep0]
theorem fresh_other (W : Nat → Nat → Int) (i : Nat) (xs : List Int) (a j : Nat) (h : a ≠ i) : fresh W i xs a j = W a j := by
  simp [fresh, updW, h]
/-- Pages over a law's start. -/
structure PV (W0 w : World) (base P p B G n c : Nat) (th : Nat → Bool) (vr : Nat → Int) (W : Nat → Nat → Int) : Prop where
  bel : Below W0.heap.size W0 w
  wb : W0.heap.size ≤ base
  pg : PgAt w base P p B G n c th vr W
section
variable {W0 w w' : World} {base P p B G n c : Nat} {th th' : Nat → Bool} {vr vr' : Nat → Int} {W W' : Nat → Nat → Int}
theorem PV.ar (h : PV W0 w base P p B G n c th vr W) : ArAt w base p B n c th vr := h.pg.ar
theorem PV.lo (h : PV W0 w base P p B G n c th vr W) : W0.heap.size ≤ B ∧ W0.heap.size ≤ G := ⟨Nat.le_trans h.wb h.pg.ar.lt.1, Nat.le_trans h.wb (h.pg.row.lt G rfl).1⟩
theorem PV.step (h : PV W0 w base P p B G n c th vr W) (hb : Below w.heap.size w w') : PV W0 w' base P p B G n c th vr W := ⟨h.bel.trans (hb.mono h.bel.size), h.wb, h.pg.below hb⟩
theorem PV.turn (h : PV W0 w base P p B G n c th vr W) (hA : ArAt w' base p B n c th' vr') (hg : w.grownBy w' (some B)) : PV W0 w' base P p B G n c th' vr' W := ⟨below_grown h.bel hg h.lo.1, h.wb, h.pg.turn hA hg⟩
theorem PV.made (h : PV W0 w base P p B G n c th vr W) (hP : PgAt w' base P p B G n c th' vr' W') (hb : PBelow w w' B G) : PV W0 w' base P p B G n c th' vr' W' := ⟨h.bel.trans (hb.below h.lo.1 h.lo.2 h.bel.size), h.wb, hP⟩
theorem PV.congr (h : PV W0 w base P p B G n c th vr W) (h1 : ∀ i, i < n → th i = th' i) (h2 : ∀ i, i < n → vr i = vr' i) : PV W0 w base P p B G n c th' vr' W := ⟨h.bel, h.wb, h.pg.congr h1 h2⟩
theorem PV.wcongr (h : PV W0 w base P p B G n c th vr W) (h1 : ∀ i j, W i j = W' i j) : PV W0 w base P p B G n c th vr W' := by
  obtain rfl : W = W' := by funext i j; exact h1 i j
  exact h
end
/-- Words that are read there. -/
def RU (w : World) (a : Option Addr) (xs : List Int) : Prop := ∀ j, j < xs.length → ∃ ad, a = some ad ∧ ad.block < w.heap.size ∧ w.cell? (ad.add j) = some (.int .u32 (xs.getD j 0))
theorem RU.below {w w' : World} {a : Option Addr} {xs : List Int} (h : RU w a xs) (hb : Below w.heap.size w w') : RU w' a xs := by
  intro i hi
  obtain ⟨ad, h1, h2, h3⟩ := h i hi
  exact ⟨ad, h1, Nat.lt_of_lt_of_le h2 hb.size, (hb.cell (p := ad.add i) (by rw [add_block']; exact h2)).trans h3⟩
theorem srcu_arg {W0 w : World} {base P p B G n c : Nat} {th : Nat → Bool} {vr : Nat → Int} {W : Nat → Nat → Int} {a : Option Addr} {xs : List Int} (h : PV W0 w base P p B G n c th vr W) (hr : RU W0 a xs) : SrcU w a xs B G := ⟨fun j hj => by
  obtain ⟨ad, h1, h2, h3⟩ := hr j hj
  have hs := h.bel.size
  have hl := h.lo
  exact ⟨ad, h1, by omega, by omega, by omega, (h.bel.cell (p := ad.add j) (by rw [add_block']; exact h2)).trans h3⟩⟩
theorem ru_row {w : World} {a : Option Addr} {len cap : Nat} {zs : List Int} (h : IsRow .u32 w a len cap zs) : ∃ xs : List Int, xs.length = len ∧ RU w a xs ∧ len ≤ 9223372036854775807 := by
  rcases h with ⟨rfl, rfl, -, -⟩ | ⟨x, rfl, h1, h2, h3, h4, h5⟩
  · exact ⟨[], rfl, fun i hi => by simp at hi, by omega⟩
  · refine ⟨zs.take len, by simp; omega, fun i hi => ?_, by unfold maxLen at h2; omega⟩
    have hi' : i < len := by simp at hi; omega
    have hc := h4 i (by omega)
    refine ⟨x, rfl, ?_, ?_⟩
    · rcases Nat.lt_or_ge x.block w.heap.size with h' | h'
      · exact h'
      · have e : (x.add i).block = x.block := add_block' x i
        simp [World.cell?, e, Array.getElem?_eq_none h'] at hc
    · rw [hc]
      simp [List.getD, hi']
theorem srcu1 (w : World) (x : Int) (t : TypeId) (B G : Nat) (h1 : B < w.heap.size) (h2 : G < w.heap.size) : SrcU (w.alloc (.cells #[.int .u32 x] t)) (some ⟨w.heap.size, 0, none⟩) [x] B G := by
  refine ⟨fun j hj => ⟨_, rfl, by simp, by simp; omega, by simp; omega, ?_⟩⟩
  match j, hj with
  | 0, _ => simp [Addr.add, List.getD]
set_option maxRecDepth 100000 in
theorem pfirst_is (w : World) : Calls Tryd.prog 27 #[] w fun e w' => e = .returned (.bool true) ∧ Below w.heap.size w w' := by
  go_enter Tryd.func27, Tryd.ntmps27
  go_wp2_with (first
    | (go_at_call 28; (with_reducible refine (pnew_ok 4 4 (Lib.hid rfl) (by decide) (by decide) _).mono ?_); rintro e w1 ⟨P, p, B, G, rfl, hP, hb⟩; have HV := Lib.hid (PV.mk hb (Nat.le_refl _) hP : PV w w1 w.heap.size P p B G 4 4 _ _ _); have HS := fun t => Lib.hid (srcu1 w1 7 t B G hP.ar.lt.2 (hP.row.lt G rfl).2); have HB := fun o => Lib.hid (HV.out.step ((Below.refl _ _).alloc (Nat.le_refl _) o)); clear hP hb)
    | (go_at_call 31; (with_reducible refine (pmake_at 0 _ 1 1 [7] (Lib.hid rfl) (by decide) 0 (Lib.hid rfl) (by decide) (Lib.hid (by decide)) (Lib.hid (by intro i hi; omega)) 0 (Lib.hid rfl) _ (HB _).out.pg (HS _).out).mono ?_); rintro e w2 ⟨rfl, hP2, hb2⟩; have HV2 := Lib.hid ((HB _).out.made hP2 hb2); clear hP2 hb2)
    | (go_at_call 33; (with_reducible refine (pread_at 0 0 0 0 (Lib.hid rfl) (Lib.hid rfl) (by decide) (by decide) (Lib.hid rfl) 7 (Lib.hid (fresh_at _ 0 [7] 0 (by decide))) _ HV2.out.pg).mono ?_); rintro e w3 ⟨rfl, rfl⟩))
  go_ret
  exact ⟨rfl, HV2.out.bel⟩
set_option maxRecDepth 100000 in
theorem fresh_big (a0 : Option Addr) (len0 cap0 : Nat) (a1 : Option Addr) (len1 cap1 : Nat) (h : 32 < len0 ∨ 32 < len1) (w : World) :
    Calls Tryd.prog 8 #[.slice a0 len0 cap0, .slice a1 len1 cap1] w fun e w' => e = .returned (.bool true) ∧ Below w.heap.size w w' := by
  by_cases h1 : 32 < len0
  · have d1 : decide ((32 : Int) < (len0 : Int)) = true := by simp; omega
    clear h h1
    go_enter Tryd.func8, Tryd.ntmps8
    go_wp2_with (first | (go_at_call 27; refine (pfirst_is _).mono ?_; rintro e w1 ⟨rfl, hb1⟩; have HB1 := Lib.hid hb1; clear hb1))
    go_ret
    exact ⟨rfl, HB1.out⟩
  · have d1 : decide ((32 : Int) < (len0 : Int)) = false := by simp; omega
    have d2 : decide ((32 : Int) < (len1 : Int)) = true := by simp; omega
    clear h h1
    go_enter Tryd.func8, Tryd.ntmps8
    go_wp2_with (first | (go_at_call 27; refine (pfirst_is _).mono ?_; rintro e w1 ⟨rfl, hb1⟩; have HB1 := Lib.hid hb1; clear hb1))
    go_ret
    exact ⟨rfl, HB1.out⟩
abbrev th1 : Nat → Bool := upd (fun _ => false) 0 true
abbrev th2 : Nat → Bool := upd th1 0 false
abbrev vr2 : Nat → Int := upd (fun _ => 0) 0 1
abbrev th3 : Nat → Bool := upd th2 0 true
set_option maxRecDepth 100000 in
set_option maxHeartbeats 4000000 in
theorem fresh_small (a0 : Option Addr) (len0 cap0 : Nat) (xs : List Int) (a1 : Option Addr) (len1 cap1 : Nat) (ys : List Int) (hx : Hid (xs.length = len0)) (hy : Hid (ys.length = len1)) (l0 : len0 ≤ 32) (l1 : len1 ≤ 32) (w : World) (r0 : RU w a0 xs) (r1 : RU w a1 ys) (A : Nat → Addr) (hS : Sen A w) :
    Calls Tryd.prog 8 #[.slice a0 len0 cap0, .slice a1 len1 cap1] w fun e w' => e = .returned (.bool true) ∧ Below w.heap.size w w' := by
  have HR0 := Lib.hid r0
  have HR1 := Lib.hid r1
  have HS := Lib.hid hS
  have d1 : decide ((32 : Int) < (len0 : Int)) = false := by simp; omega
  have d2 : decide ((32 : Int) < (len1 : Int)) = false := by simp; omega
  clear r0 r1 hS
  go_enter Tryd.func8, Tryd.ntmps8
  go_wp2_with (first
    | (go_at_call 27; refine (pfirst_is _).mono ?_; rintro e w1 ⟨rfl, hb1⟩; have HB1 := Lib.hid hb1; clear hb1)
    | (go_at_call 28; (with_reducible refine (pnew_ok 1 1 (Lib.hid rfl) (by decide) (by decide) _).mono ?_); rintro e w2 ⟨P, p, B, G, rfl, hP, hb⟩; have HV := Lib.hid (PV.mk (HB1.out.trans (hb.mono HB1.out.size)) HB1.out.size hP : PV w w2 w1.heap.size P p B G 1 1 _ _ _); have hf0 := hP.f0; clear hP hb)
    | (go_at_call 31; (with_reducible refine (pmake_at 0 a0 len0 cap0 xs hx l0 0 (Lib.hid rfl) (by decide) (Lib.hid (by decide)) (Lib.hid (by intro i hi; omega)) 0 (Lib.hid rfl) _ HV.out.pg (srcu_arg HV.out HR0.out)).mono ?_); rintro e w3 ⟨rfl, hP3, hb3⟩; have HV3 : Hid (PV w w3 w1.heap.size P p B G 1 1 th1 (fun _ => 0) _) := Lib.hid (HV.out.made hP3 hb3); clear hf0; have hf0 := hP3.f0; clear hP3 hb3)
    | (go_at_call 20; (with_reducible refine (agive_at 0 _ HV3.out.ar 0 (Lib.hid rfl) (by decide) (Lib.hid (by decide)) 0 1 (Lib.hid rfl) (by decide) (by decide) (Lib.hid (by decide))).mono ?_); rintro e w4 ⟨rfl, hA4, hg4⟩; have HV4 : Hid (PV w w4 w1.heap.size P p B G 1 1 th2 vr2 _) := Lib.hid (HV3.out.turn hA4 hg4); clear hf0; have hf0 := HV4.out.pg.f0; clear hA4 hg4)
    | (go_at_call 31; (with_reducible refine (pmake_at 0 a1 len1 cap1 ys hy l1 0 (Lib.hid rfl) (by decide) (Lib.hid (by decide)) (Lib.hid (by intro i hi; omega)) 1 (Lib.hid (by decide)) _ HV4.out.pg (srcu_arg HV4.out HR1.out)).mono ?_); rintro e w5 ⟨rfl, hP5, hb5⟩; have HV5 : Hid (PV w w5 w1.heap.size P p B G 1 1 th3 vr2 _) := Lib.hid (HV4.out.made hP5 hb5); clear hf0; have hf0 := hP5.f0; clear hP5 hb5)
    | (go_at_call 25; (with_reducible refine (alive_is 0 0 false (Lib.hid (by decide)) _ HV5.out.ar).mono ?_); rintro e w6 ⟨rfl, rfl⟩)
    | (go_at_call 25; (with_reducible refine (alive_is 0 1 true (Lib.hid (by decide)) _ HV5.out.ar).mono ?_); rintro e w6 ⟨rfl, rfl⟩)
    | (go_at_call 21; (with_reducible refine (aleft_at 0 _ HV5.out.ar (Lib.hid (by decide))).mono ?_); rintro e w7 ⟨rfl, hb7⟩; have HV7 := Lib.hid (HV5.out.step hb7); clear hb7 hf0))
  go_loop [15] (fun i => ∃ k : Nat, k ≤ 32 ∧ i = .int .i64 k) (fun i => 32 - (intOf i).toNat)
  case atStart => exact ⟨0, by omega, rfl⟩
  case round =>
    obtain ⟨k, hk, rfl⟩ := hrel
    by_cases hlt : k < 32
    · by_cases hkl : k < len1
      · have hky : k < ys.length := by rw [hy.out]; exact hkl
        obtain ⟨ad, rfl, _, hc⟩ := (HR1.out.below HV7.out.bel) k hky
        obtain ⟨y, HY⟩ : ∃ y, Hid (ys.getD k 0 = y) := ⟨_, Lib.hid rfl⟩
        rw [HY.out] at hc
        have k0 : (0 : Int) ≤ k := by omega
        have k1 : (k : Int) < len1 := by omega
        go_wp2_with (first
          | (go_at_call 33; (with_reducible refine (pread_at 0 (k : Int) 0 k (Lib.hid rfl) (Lib.hid rfl) (by decide) hlt (Lib.hid rfl) y (Lib.hid (by rw [fresh_at _ 0 ys k hlt, if_pos hky, HY.out])) _ HV7.out.pg).mono ?_); rintro e w8 ⟨rfl, rfl⟩))
        go_round
        case rel => exact ⟨k + 1, by omega, by go_num⟩
        case measure => simp [intOf]; omega
      · have hky : ¬ k < ys.length := by rw [hy.out]; exact hkl
        go_wp2_with (first
          | (go_at_call 33; (with_reducible refine (pread_at 0 (k : Int) 0 k (Lib.hid rfl) (Lib.hid rfl) (by decide) hlt (Lib.hid rfl) 0 (Lib.hid (by rw [fresh_at _ 0 ys k hlt, if_neg hky])) _ HV7.out.pg).mono ?_); rintro e w8 ⟨rfl, rfl⟩))
        go_round
        case rel => exact ⟨k + 1, by omega, by go_num⟩
        case measure => simp [intOf]; omega
    · obtain rfl : k = 32 := by omega
      go_wp2_with (first
        | (go_at_call 31; (with_reducible refine (pmake_full _ HV7.out.pg (Lib.hid (by decide)) _ _ (HS.out.below HV7.out.bel).c5 (HS.out.below HV7.out.bel).s5).mono ?_); rintro e w8 ⟨rfl, hb⟩; have HV8 := Lib.hid (HV7.out.step hb); clear hb)
        | (go_at_call 16; (with_reducible refine (is_sen A 5 106 (by decide) (Lib.hid (by decide)) _ (HS.out.below HV8.out.bel)).mono ?_); rintro e w9 ⟨rfl, hb⟩; have HV9 := Lib.hid (HV8.out.step hb); clear hb))
      go_ret
      exact ⟨rfl, HV9.out.bel⟩
theorem walk_PageFresh (a0 : Option Addr) (len0 cap0 : Nat) (z0 : List Int) (a1 : Option Addr) (len1 cap1 : Nat) (z1 : List Int) (w : World) (w0 : IsRow .u32 w a0 len0 cap0 z0) (w1 : IsRow .u32 w a1 len1 cap1 z1) (hL : laidMetH Tryd.prog Rows.pageFreshRow.laid w) :
    Calls Tryd.prog 8 #[.slice a0 len0 cap0, .slice a1 len1 cap1] w fun e w' => e = .returned (.bool true) ∧ Below w.heap.size w w' := by
  rw [MakeChecks.laidMetH_plain _ _ _ (by kernel_rfl)] at hL
  have hS := (sen_of hL (by intro n hn; simp only [List.mem_cons, List.not_mem_nil, or_false] at hn; rcases hn with rfl | rfl | rfl | rfl | rfl | rfl | rfl | rfl | rfl | rfl | rfl | rfl <;> exact ⟨_, by repeat (first | exact List.Mem.head _ | apply List.Mem.tail)⟩))
  obtain ⟨xs, x1, x2, x3⟩ := ru_row w0
  obtain ⟨ys, y1, y2, y3⟩ := ru_row w1
  by_cases h : 32 < len0 ∨ 32 < len1
  · exact fresh_big a0 len0 cap0 a1 len1 cap1 h w
  · exact fresh_small a0 len0 cap0 xs a1 len1 cap1 ys (Lib.hid x1) (Lib.hid y1) (by omega) (by omega) w x2 y2 _ hS
end Go.Proofs.YtlefmgdfcpnifaaDoor
