/-
  ArenaVersions: the walk.
-/
import Derived.Test.YtlefmgdfcpnifaaDoorArN
namespace Go.Proofs.YtlefmgdfcpnifaaDoor
open Go.ChangeShapes Go.WideShapes Go.ChangeAt Go.RowKit
set_option linter.unusedVariables false
theorem number_nat (n m : Int) (M : Nat) (hm : m = (M : Int)) (hm0 : 0 < M) (hm1 : M ≤ 1000) (h1 : -9223372036854775808 ≤ n) (h2 : n ≤ 9223372036854775807) : ∃ r : Nat, r < M ∧ ∀ w, Calls Tryd.prog 26 #[.int .i64 n, .int .i64 m] w fun e w' => e = .returned (.int .i64 r) ∧ w = w' := by
  have e0 := Int.emod_nonneg n (show m ≠ 0 by omega)
  have e1 := Int.emod_lt_of_pos n (show 0 < m by omega)
  refine ⟨(n % m).toNat, by omega, fun w => ?_⟩
  exact number_is n m _ (by omega) (by omega) h1 h2 (Lib.hid (by omega)) w
theorem anew_at (x : Int) (n : Nat) (hx : Hid (x = n)) (h1 : 1 ≤ n) (h2 : n ≤ 256) (w : World) :
    Calls Tryd.prog 15 #[.int .i64 x] w fun e w' => ∃ p B, e = .returned (.tuple #[.pointer (some ⟨p, 0, none⟩), .nilIface]) ∧ ArAt w' w.heap.size p B n n (fun _ => false) (fun _ => 0) ∧ Below w.heap.size w w' := by
  rw [hx.out]; exact anew_ok n h1 h2 w
theorem aused_at {base p B n c : Nat} {th : Nat → Bool} {vr : Nat → Int} (x : Int) (w : World) (hA : ArAt w base p B n c th vr) (hx : Hid (((cntB th n : Nat) : Int) = x)) :
    Calls Tryd.prog 18 #[.pointer (some ⟨p, 0, none⟩)] w fun e w' => e = .returned (.int .i64 x) ∧ Below w.heap.size w w' := by
  rw [← hx.out]; exact aused_is w hA
theorem aleft_at {base p B n c : Nat} {th : Nat → Bool} {vr : Nat → Int} (x : Int) (w : World) (hA : ArAt w base p B n c th vr) (hx : Hid (((cntB (freeB th vr) n : Nat) : Int) = x)) :
    Calls Tryd.prog 21 #[.pointer (some ⟨p, 0, none⟩)] w fun e w' => e = .returned (.int .i64 x) ∧ Below w.heap.size w w' := by
  rw [← hx.out]; exact aleft_is w hA
theorem cnt_all (n : Nat) : cntB (fun _ => true) n = n := by
  induction n with
  | zero => rfl
  | succ n ih => unfold cntB; rw [ih]; rfl
theorem cnt_none (P : Nat → Bool) (n : Nat) (h : ∀ i, i < n → P i = false) : cntB P n = 0 := by
  induction n with
  | zero => rfl
  | succ n ih => unfold cntB; rw [ih (fun i hi => h i (by omega)), h n (by omega)]; rfl
/-- The places of this law: filled up to k; all there, one of them m times anew. -/
def thK (k : Nat) : Nat → Bool := fun i => decide (i < k)
def vrM (a m : Nat) : Nat → Int := fun i => if i = a then (m : Int) else 0
def VV (W w : World) (base p B n c : Nat) (th : Nat → Bool) (vr : Nat → Int) : Prop := Below W.heap.size W w ∧ ArAt w base p B n c th vr ∧ W.heap.size ≤ base
section
variable {W w w' : World} {base p B n c : Nat} {th th' : Nat → Bool} {vr vr' : Nat → Int}
theorem VV.ar (h : VV W w base p B n c th vr) : ArAt w base p B n c th vr := h.2.1
theorem VV.bel (h : VV W w base p B n c th vr) : Below W.heap.size W w := h.1
theorem VV.step (h : VV W w base p B n c th vr) (hb : Below w.heap.size w w') : VV W w' base p B n c th vr := ⟨h.1.trans (hb.mono h.1.size), h.2.1.below hb, h.2.2⟩
theorem VV.turn (h : VV W w base p B n c th vr) (hA : ArAt w' base p B n c th' vr') (hg : w.grownBy w' (some B)) : VV W w' base p B n c th' vr' := ⟨below_grown h.1 hg (Nat.le_trans h.2.2 h.2.1.lt.1), hA, h.2.2⟩
theorem VV.congr (h : VV W w base p B n c th vr) (h1 : ∀ i, i < n → th i = th' i) (h2 : ∀ i, i < n → vr i = vr' i) : VV W w base p B n c th' vr' := ⟨h.1, h.2.1.congr h1 h2, h.2.2⟩
end
set_option maxRecDepth 100000 in
set_option maxHeartbeats 4000000 in
theorem versions_any (n0 t0 a0 : Int) (g1 : -9223372036854775808 ≤ n0) (g2 : n0 ≤ 9223372036854775807) (g3 : -9223372036854775808 ≤ t0) (g4 : t0 ≤ 9223372036854775807) (g5 : -9223372036854775808 ≤ a0) (g6 : a0 ≤ 9223372036854775807) (w : World) :
    Calls Tryd.prog 4 #[.int .i64 n0, .int .i64 t0, .int .i64 a0] w fun e w' => e = .returned (.bool true) ∧ Below w.heap.size w w' := by
  obtain ⟨R, hR, CR⟩ := number_nat n0 8 8 rfl (by decide) (by decide) g1 g2
  obtain ⟨T, hT, CT⟩ := number_nat t0 40 40 rfl (by decide) (by decide) g3 g4
  obtain ⟨a, ha, CA⟩ := number_nat a0 ((R : Int) + 1) (R + 1) (by omega) (by omega) (by omega) g5 g6
  have CR' := Lib.hid CR
  have CT' := Lib.hid CT
  have CA' := Lib.hid CA
  clear CR CT CA g1 g2 g3 g4 g5 g6
  go_enter Tryd.func4, Tryd.ntmps4
  go_wp2_with (first
    | (go_at_call 14; refine (afirst_is _).mono ?_; rintro e w1 ⟨rfl, hb1⟩; have HB1 := Lib.hid hb1; clear hb1)
    | (go_at_call 26; (with_reducible refine (CR'.out _).mono ?_); rintro e w2 ⟨rfl, rfl⟩)
    | (go_at_call 26; (with_reducible refine (CT'.out _).mono ?_); rintro e w2 ⟨rfl, rfl⟩)
    | (go_at_call 26; (with_reducible refine (CA'.out _).mono ?_); rintro e w2 ⟨rfl, rfl⟩)
    | (go_at_call 15; (with_reducible refine (anew_at _ (R + 1) (Lib.hid (by omega)) (by omega) (by omega) _).mono ?_); rintro e w3 ⟨p, B, rfl, hA, hb⟩; have HV : Hid (VV w w3 w1.heap.size p B (R + 1) (R + 1) (thK 0) (vrM a 0)) := Lib.hid ⟨HB1.out.trans (hb.mono HB1.out.size), hA.congr (fun i _ => by simp [thK]) (fun i _ => by simp [vrM]), HB1.out.size⟩; clear hA hb))
  go_loopw [10] (fun i wr => ∃ k : Nat, k ≤ R + 1 ∧ i = .int .i64 k ∧ VV w wr w1.heap.size p B (R + 1) (R + 1) (thK k) (vrM a 0)) (fun i _ => R + 1 - (intOf i).toNat)
  case atStart => exact ⟨0, by omega, rfl, HV.out⟩
  case round =>
    obtain ⟨k, hk, rfl, hV⟩ := hrel
    have HV1 := Lib.hid hV
    clear hV
    by_cases hlt : k < R + 1
    · have HF : Hid (freeB (thK k) (vrM a 0) k = true) := Lib.hid (by simp [freeB, thK, vrM])
      have HN : Hid (∀ i, i < k → freeB (thK k) (vrM a 0) i = false) := Lib.hid (by intro i hi; simp [freeB, thK, hi])
      go_wp2_with (first | (go_at_call 19; (with_reducible refine (atake_at (k : Int) _ HV1.out.ar k (Lib.hid rfl) hlt HF HN 0 (Lib.hid (by simp [vrM]))).mono ?_); rintro e w5 ⟨rfl, hA2, hg⟩; have HV5 : Hid (VV w w5 w1.heap.size p B (R + 1) (R + 1) (thK (k + 1)) (vrM a 0)) := Lib.hid ((HV1.out.turn hA2 hg).congr (fun i _ => by unfold upd thK; by_cases e : i = k <;> simp [e] <;> omega) (fun _ _ => rfl)); clear hA2 hg))
      go_roundw
      case rel => exact ⟨k + 1, by omega, by go_num, HV5.out⟩
      case measure => simp [intOf]; omega
    · obtain rfl : k = R + 1 := by omega
      have HV2 : Hid (VV w wr w1.heap.size p B (R + 1) (R + 1) (fun _ => true) (vrM a 0)) := Lib.hid (HV1.out.congr (fun i hi => by simp [thK]; omega) (fun _ _ => rfl))
      go_wp2_with fail
      go_loopw [11] (fun i wx => ∃ m : Nat, m ≤ T ∧ i = .int .i64 m ∧ VV w wx w1.heap.size p B (R + 1) (R + 1) (fun _ => true) (vrM a m)) (fun i _ => T - (intOf i).toNat)
      case atStart => exact ⟨0, by omega, rfl, HV2.out⟩
      case round =>
        obtain ⟨m, hm, rfl, hV⟩ := hrel
        have HV3 := Lib.hid hV
        clear hV
        by_cases hlt : m < T
        · have L1 : Hid ((thereB (R + 1) (fun _ => true) (a : Int) && (vrM a m (a : Int).toNat == (m : Int))) = true) := Lib.hid (by simp [thereB, vrM]; omega)
          have L2 : Hid ((thereB (R + 1) (upd (fun _ => true) a false) (a : Int) && (upd (vrM a m) a ((m : Int) + 1) (a : Int).toNat == (m : Int))) = false) := Lib.hid (by simp [thereB, upd])
          have L3 : Hid ((thereB (R + 1) (upd (fun _ => true) a false) (a : Int) && (upd (vrM a m) a ((m : Int) + 1) (a : Int).toNat == (m : Int) + 1)) = false) := Lib.hid (by simp [thereB, upd])
          have HF : Hid (freeB (upd (fun _ => true) a false) (upd (vrM a m) a ((m : Int) + 1)) a = true) := Lib.hid (by simp [freeB, upd]; omega)
          have HN : Hid (∀ i, i < a → freeB (upd (fun _ => true) a false) (upd (vrM a m) a ((m : Int) + 1)) i = false) := Lib.hid (by intro i hi; simp [freeB, upd]; omega)
          have HG : Hid (vrM a m a = (m : Int)) := Lib.hid (by simp [vrM])
          have HW : Hid (upd (vrM a m) a ((m : Int) + 1) a = (m : Int) + 1) := Lib.hid (by simp [upd])
          go_wp2_with (first
            | (go_at_call 25; (with_reducible refine (alive_is _ _ true L1 _ HV3.out.ar).mono ?_); rintro e w6 ⟨rfl, rfl⟩)
            | (go_at_call 20; (with_reducible refine (agive_at (a : Int) _ HV3.out.ar a (Lib.hid rfl) ha (Lib.hid rfl) (m : Int) ((m : Int) + 1) HG (by omega) (by omega) (Lib.hid rfl)).mono ?_); rintro e w7 ⟨rfl, hA2, hg⟩; have HV4 := Lib.hid (HV3.out.turn hA2 hg); clear hA2 hg)
            | (go_at_call 25; (with_reducible refine (alive_is _ _ false L2 _ HV4.out.ar).mono ?_); rintro e w8 ⟨rfl, rfl⟩)
            | (go_at_call 25; (with_reducible refine (alive_is _ _ false L3 _ HV4.out.ar).mono ?_); rintro e w8 ⟨rfl, rfl⟩)
            | (go_at_call 19; (with_reducible refine (atake_at (a : Int) _ HV4.out.ar a (Lib.hid rfl) ha HF HN ((m : Int) + 1) HW).mono ?_); rintro e w9 ⟨rfl, hA3, hg⟩; have HV5 : Hid (VV w w9 w1.heap.size p B (R + 1) (R + 1) (fun _ => true) (vrM a (m + 1))) := Lib.hid ((HV4.out.turn hA3 hg).congr (fun i _ => by unfold upd; by_cases e : i = a <;> simp [e]) (fun i _ => by unfold upd vrM; by_cases e : i = a <;> simp [e])); clear hA3 hg))
          go_loop [15] (fun i => ∃ k : Nat, k ≤ m + 1 ∧ i = .int .i64 k) (fun i => m + 1 - (intOf i).toNat)
          case atStart => exact ⟨0, by omega, rfl⟩
          case round =>
            obtain ⟨k, hk, rfl⟩ := hrel
            by_cases hk2 : k < m + 1
            · have L4 : Hid ((thereB (R + 1) (fun _ => true) (a : Int) && (vrM a (m + 1) (a : Int).toNat == (k : Int))) = false) := Lib.hid (by simp [thereB, vrM]; omega)
              have hkm : k ≤ m := by omega
              go_wp2_with (first | (go_at_call 25; (with_reducible refine (alive_is _ _ false L4 _ HV5.out.ar).mono ?_); rintro e w8 ⟨rfl, rfl⟩))
              go_round
              case rel => exact ⟨k + 1, by omega, by go_num⟩
              case measure => simp [intOf]; omega
            · obtain rfl : k = m + 1 := by omega
              go_wp2_with fail
              go_roundw
              case rel => exact ⟨m + 1, by omega, by go_num, HV5.out⟩
              case measure => simp [intOf]; omega
        · obtain rfl : m = T := by omega
          have hdd : decide (m < m) = false := by simp
          have HL : Hid (((cntB (freeB (fun _ => true) (vrM a m)) (R + 1) : Nat) : Int) = 0) := Lib.hid (by rw [cnt_none _ _ (fun i _ => by simp [freeB])]; rfl)
          go_wp2_with (first
            | (go_at_call 18; (with_reducible refine (aused_at ((R : Int) + 1) _ HV3.out.ar (Lib.hid (by rw [cnt_all]; omega))).mono ?_); rintro e w6 ⟨rfl, hb⟩; have HV4 := Lib.hid (HV3.out.step hb); clear hb)
            | (go_at_call 21; (with_reducible refine (aleft_at 0 _ HV4.out.ar HL).mono ?_); rintro e w7 ⟨rfl, hb⟩; have HV5 := Lib.hid (HV4.out.step hb); clear hb))
          go_ret
          exact ⟨by simp, HV5.out.bel⟩
theorem i64_fit {a : Int} (h : (Lit.int .i64 a).wf = true) : -9223372036854775808 ≤ a ∧ a ≤ 9223372036854775807 := by simpa [Lit.wf, IntKind.min, IntKind.max, IntKind.signed, IntKind.bits] using h
theorem walk_ArenaVersions (a0 : Int) (a1 : Int) (a2 : Int) (w : World) (w0 : (Lit.int .i64 a0).wf = true) (w1 : (Lit.int .i64 a1).wf = true) (w2 : (Lit.int .i64 a2).wf = true) (hL : laidMetH Tryd.prog Rows.arenaVersionsRow.laid w) :
    Calls Tryd.prog 4 #[.int .i64 a0, .int .i64 a1, .int .i64 a2] w fun e w' => e = .returned (.bool true) ∧ Below w.heap.size w w' :=
  versions_any a0 a1 a2 (i64_fit w0).1 (i64_fit w0).2 (i64_fit w1).1 (i64_fit w1).2 (i64_fit w2).1 (i64_fit w2).2 w
end Go.Proofs.YtlefmgdfcpnifaaDoor
