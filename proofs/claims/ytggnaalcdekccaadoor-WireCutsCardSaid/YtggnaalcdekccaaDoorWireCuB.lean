import Derived.Test.YtggnaalcdekccaaDoorWireCt
namespace Go.Proofs.YtggnaalcdekccaaDoor
open Go.ChangeShapes Go.WideShapes Go.ChangeAt Go.RowKit
set_option linter.unusedVariables false
set_option maxRecDepth 100000 in
theorem cuts_big (a : Option Addr) (len cap : Nat) (a1 : Int) (w : World) (hl : 20 < len) (hm : len ≤ 9223372036854775807) :
    Calls Tryd.prog 6 #[.slice a len cap, .int .i64 a1] w fun e w' => e = .returned (.bool true) ∧ Below w.heap.size w w' := by
  go_enter Tryd.func6, Tryd.ntmps6
  go_wp2_with (first | (go_at_call 12; refine (wfirst_any _).mono ?_; rintro e w1 ⟨rfl, hb⟩))
  go_ret
  exact ⟨rfl, hb⟩
set_option maxRecDepth 100000 in
set_option maxHeartbeats 4000000 in
theorem cuts_some (A : Nat → Addr) (ad : Addr) (c0 : Nat) (ns : List Int) (a1 : Int) (w : World) (hA : Sen A w) (hs : SrcL w (some ad) ns) (hl0 : 0 < ns.length) (hl : ns.length ≤ 20) (hc : ns.length ≤ c0) (hcm : c0 ≤ maxLen) (hd : ad.block < w.heap.size) (r0 : -9223372036854775808 ≤ a1) (r1 : a1 ≤ 9223372036854775807) :
    Calls Tryd.prog 6 #[.slice (some ad) ns.length c0, .int .i64 a1] w fun e w' => e = .returned (.bool true) ∧ Below w.heap.size w w' := by
  have HS := Lib.hid hs
  clear hs
  have HR := Lib.hid (⟨r0, r1⟩ : -9223372036854775808 ≤ a1 ∧ a1 ≤ 9223372036854775807)
  clear r0 r1
  have HC := Lib.hid hcm
  have hcm2 : c0 ≤ 9223372036854775807 := by unfold maxLen at hcm; exact hcm
  clear hcm
  have HK : WL A w w := ⟨Below.refl _ _, hA⟩
  clear hA
  have hle : (encs ns).length ≤ 200 := by have := encs_len ns HS.out.1; omega
  have hpos : 0 < (encs ns).length := by
    have e := encs_split ns 0 hl0
    have := List.length_pos_iff.2 (enc_ne (zig (ns.getD 0 0)))
    rw [e, List.length_append, List.length_append]; omega
  go_enter Tryd.func6, Tryd.ntmps6
  go_wp2_with fail
  refine (wfirst_any _).mono ?_
  rintro e w1 ⟨rfl, hb1⟩
  have HK1 := HK.step hb1
  clear hb1
  go_wp2_with fail
  refine (put_nil_out (some ad) 0 c0 ns.length ns _ rfl (by omega) (HS.out.below HK1.bel (fun x hx _ => by obtain rfl := Option.some.inj hx; exact hd))).mono ?_
  rintro e w2 ⟨ab, cb, rfl, hs2, ha2, hc2a, hc2b, hb2⟩
  have HK2 := HK1.step hb2
  obtain ⟨bd, rfl⟩ : ∃ x, ab = some x := by
    cases ab with
    | none => have := hs2.2.1 rfl; rw [this] at hpos; simp at hpos
    | some x => exact ⟨x, rfl⟩
  have HS2 := Lib.hid hs2
  clear hs2 ha2 hb2 HK1
  have hcb : cb ≤ 9223372036854775807 := by unfold maxLen at hc2b; exact hc2b
  clear hc2b
  go_wp2_with fail
  refine (num_any a1 (((encs ns).length : Int) + 1) (by omega) (by omega) HR.out.1 HR.out.2 _).mono ?_
  rintro e w3 ⟨rfl, rfl⟩
  obtain ⟨k, hk⟩ : ∃ k : Nat, a1 % (((encs ns).length : Int) + 1) = (k : Int) := ⟨(a1 % (((encs ns).length : Int) + 1)).toNat, by have := Int.emod_nonneg a1 (show (((encs ns).length : Int) + 1) ≠ 0 by omega); omega⟩
  have hkl : k ≤ (encs ns).length := by have := Int.emod_lt_of_pos a1 (show 0 < (((encs ns).length : Int) + 1) by omega); omega
  rw [hk]
  clear hk
  go_wp2_with fail
  refine (nr_len _ cb k ((encs ns).take k) _ (by simp; omega) (by simp; omega) (HS2.out.take k hkl).1 (fun _ => ⟨bd, rfl, (HS2.out.take k hkl).2.2 bd rfl⟩)).mono ?_
  rintro e w3 ⟨p, g, rfl, hrd, hp, hg, hb3⟩
  have HRD0 : Hid (Rd w3 p g (plc ns 0) ((encs ns).take k) .nilIface) := Lib.hid (by rw [plc_zero]; exact hrd)
  have HB3 := Lib.hid hb3
  clear hrd hb3
  go_wp2_with fail
  go_loopw [9, 10] (fun at_ i wr => ∃ j : Nat, j ≤ ns.length ∧ at_ = .int .i64 (plc ns j) ∧ i = .int .i64 j ∧ plc ns j ≤ k ∧ Rd wr p g (plc ns j) ((encs ns).take k) .nilIface ∧ Below w2.heap.size w2 wr) (fun _ i _ => ns.length - (intOf i).toNat)
  case atStart => exact ⟨0, by omega, by rw [plc_zero]; rfl, rfl, by rw [plc_zero]; omega, HRD0.out, HB3.out⟩
  case round =>
    obtain ⟨j, hj, rfl, rfl, hpk, hrd, hbel⟩ := hrel
    have HRD := Lib.hid hrd
    have HB := Lib.hid hbel
    have HKW := HK2.step hbel
    clear hrd hbel
    by_cases hjl : j < ns.length
    · have hpl := plc_lt ns j hjl
      have hj1 : (j : Int) < (ns.length : Int) := by omega
      by_cases hkk : plc ns (j + 1) ≤ k
      · go_wp2_with fail
        refine (put_plc _ 0 c0 (j + 1) ns _ (by omega) (by omega) (HS.out.below HKW.bel (fun x hx _ => by obtain rfl := Option.some.inj hx; exact hd))).mono ?_
        rintro e w5 ⟨a5, c5, rfl, hb5⟩
        have hrd5 := HRD.out.below hb5 HRD.out.lp HRD.out.lg
        have hbel5 : Below w2.heap.size w2 w5 := HB.out.trans (hb5.mono HB.out.size)
        have hkw5 := HK2.step hbel5
        go_wp2_with fail
        refine (cut_num_ok ns j k hrd5 hjl hkk hkl hle HS.out.1).mono ?_
        rintro e w6 ⟨rfl, hrd6, hg6⟩
        obtain ⟨HK6, hb6⟩ := HK2.own hbel5 hp hg6
        have c1 := ((HS.out.below HK6.bel (fun x hx _ => by obtain rfl := Option.some.inj hx; exact hd)).2.2 ad rfl j hjl).1
        have HRD6 := Lib.hid hrd6
        have HB6 := Lib.hid hb6
        clear hb5 hrd5 hbel5 hkw5 hrd6 hg6 hb6 HK6
        generalize hnn : ns.getD j 0 = n at c1
        clear hnn
        have hne : (n != n) = false := by simp
        go_wp2_with fail
        go_roundw
        case rel => exact ⟨j + 1, by omega, rfl, by go_num, hkk, HRD6.out, HB6.out⟩
        case measure => simp [intOf]; omega
      · go_wp2_with fail
        refine (put_plc _ 0 c0 (j + 1) ns _ (by omega) (by omega) (HS.out.below HKW.bel (fun x hx _ => by obtain rfl := Option.some.inj hx; exact hd))).mono ?_
        rintro e w5 ⟨a5, c5, rfl, hb5⟩
        have hrd5 := HRD.out.below hb5 HRD.out.lp HRD.out.lg
        have hbel5 : Below w2.heap.size w2 w5 := HB.out.trans (hb5.mono HB.out.size)
        have hkw5 := HK2.step hbel5
        go_wp2_with fail
        refine (cut_num_bad ns j k hrd5 hjl hpk (by omega) hkl hle HS.out.1 A hkw5.sen).mono ?_
        rintro e w6 ⟨rfl, ⟨q, hrd6, hq, hq0, hq1⟩, hg6⟩
        obtain ⟨HK6, hb6⟩ := HK2.own hbel5 hp hg6
        have HRD6 := Lib.hid hrd6
        have HF : FaultIs (Value.iface 76 (.pointer (some ⟨q, 0, none⟩))) (101 + ((0 : Nat) : Int)) (plc ns j : Int) true w6 := FaultIs.at HK6.sen 0 (by decide) (plc ns j : Int) q ⟨hq, hq0, hq1⟩
        have HFF := Lib.hid HF
        clear hb5 hrd5 hbel5 hkw5 hrd6 hg6 hb6 hq hq0 hq1 HF
        go_wp2_with (first | (go_at_call 20; refine (rd_err HRD6.out).mono ?_; rintro e w7 ⟨rfl, rfl⟩) | (go_at_call 23; refine (rd_at HRD6.out).mono ?_; rintro e w7 ⟨rfl, rfl⟩) | (go_at_call 22; refine (placed_is 101 _ (by decide) _).mono ?_; rintro e w8 ⟨rfl, hb8⟩) | (go_at_call 21; refine (same_any _ _ _ _ _ _ _ _ (HFF.out.later hb8)).mono ?_; rintro e w9 ⟨rfl, hb9⟩))
        go_ret
        refine ⟨?_, ((HK6.step hb8).step hb9).bel⟩
        simp [faultB]
    · go_wp2_with (first | (go_at_call 20; refine (rd_err HRD.out).mono ?_; rintro e w7 ⟨rfl, rfl⟩) | (go_at_call 23; refine (rd_at HRD.out).mono ?_; rintro e w7 ⟨rfl, rfl⟩))
      go_ret
      refine ⟨?_, HKW.bel⟩
      have := plc_all ns j (by omega)
      simp
      omega
theorem nr_empty (a : Option Addr) (cap : Nat) (w : World) :
    Calls Tryd.prog 17 #[.slice a 0 cap] w fun e w' => ∃ p g, e = .returned (.pointer (some ⟨p, 0, none⟩)) ∧ Rd w' p g 0 [] .nilIface ∧ w.heap.size ≤ p ∧ w.heap.size ≤ g ∧ Below w.heap.size w w' :=
  nr_len a cap 0 [] w rfl (by simp) (by simp) (by simp)
set_option maxRecDepth 100000 in
set_option maxHeartbeats 4000000 in
theorem cuts_none (a : Option Addr) (c0 : Nat) (a1 : Int) (w : World) (r0 : -9223372036854775808 ≤ a1) (r1 : a1 ≤ 9223372036854775807) :
    Calls Tryd.prog 6 #[.slice a 0 c0, .int .i64 a1] w fun e w' => e = .returned (.bool true) ∧ Below w.heap.size w w' := by
  have HR := Lib.hid (⟨r0, r1⟩ : -9223372036854775808 ≤ a1 ∧ a1 ≤ 9223372036854775807)
  clear r0 r1
  have e1 : a1 % 1 = 0 := by omega
  have H1 := Lib.hid e1
  clear e1
  go_enter Tryd.func6, Tryd.ntmps6
  go_wp2_with fail
  refine (wfirst_any _).mono ?_
  rintro e w1 ⟨rfl, hb1⟩
  have HB1 := Lib.hid hb1
  clear hb1
  go_wp2_with fail
  refine (put_nil_out a 0 c0 0 [] _ rfl (by simp) ⟨by simp, fun _ => rfl, fun ad _ i hi => by simp at hi⟩).mono ?_
  rintro e w2 ⟨ab, cb, rfl, hs2, ha2, hc2a, hc2b, hb2⟩
  have HB2 := Lib.hid (HB1.out.trans (hb2.mono HB1.out.size))
  clear hs2 ha2 hb2 hc2a
  have hcb : cb ≤ 9223372036854775807 := by unfold maxLen at hc2b; exact hc2b
  clear hc2b
  have hcz : 0 ≤ cb := Nat.zero_le _
  simp only [encs, List.flatMap_nil, List.length_nil]
  go_wp2_with fail
  refine (num_any a1 1 (by omega) (by omega) HR.out.1 HR.out.2 _).mono ?_
  rintro e w3 ⟨rfl, rfl⟩
  rw [H1.out]
  cases ab
  all_goals
    go_wp2_with fail
    refine (nr_empty _ cb _).mono ?_
    rintro e w3 ⟨p, g, rfl, hrd, hp, hg, hb3⟩
    have HRD := Lib.hid hrd
    have HB3 := Lib.hid (HB2.out.trans (hb3.mono HB2.out.size))
    clear hrd hb3
    go_wp2_with fail
    go_loopw [9, 10] (fun at_ i wr => at_ = .int .i64 0 ∧ i = .int .i64 0 ∧ wr = w3) (fun _ i _ => 0)
    case atStart => exact ⟨rfl, rfl, rfl⟩
    case round =>
      obtain ⟨rfl, rfl, rfl⟩ := hrel
      go_wp2_with (first | (go_at_call 20; refine (rd_err HRD.out).mono ?_; rintro e w7 ⟨rfl, rfl⟩) | (go_at_call 23; refine (rd_at HRD.out).mono ?_; rintro e w7 ⟨rfl, rfl⟩))
      go_ret
      exact ⟨rfl, HB3.out⟩
theorem cuts_any (a : Option Addr) (len cap : Nat) (zs : List Int) (a1 : Int) (A : Nat → Addr) (w : World) (hA : Sen A w) (r0 : -9223372036854775808 ≤ a1) (r1 : a1 ≤ 9223372036854775807) (h : IsRow .i64 w a len cap zs) :
    Calls Tryd.prog 6 #[.slice a len cap, .int .i64 a1] w fun e w' => e = .returned (.bool true) ∧ Below w.heap.size w w' := by
  obtain ⟨ns, rfl, hs, hlt, h0, hc, hcm⟩ := isrow_longs h
  by_cases hl : 20 < ns.length
  · exact cuts_big a ns.length cap a1 w hl (by unfold maxLen at hcm; omega)
  by_cases hz : ns.length = 0
  · rw [hz]; exact cuts_none a cap a1 w r0 r1
  cases a with
  | none => have := hs.2.1 rfl; rw [this] at hz; simp at hz
  | some ad => exact cuts_some A ad cap ns a1 w hA hs (by omega) (by omega) hc hcm (hlt ad rfl (by omega)) r0 r1
theorem walk_WireCuts (a0 : Option Addr) (len0 cap0 : Nat) (z0 : List Int) (a1 : Int) (w : World) (w0 : IsRow .i64 w a0 len0 cap0 z0) (w1 : (Lit.int .i64 a1).wf = true) (hL : laidMetH Tryd.prog Rows.wireCutsRow.laid w) :
    Calls Tryd.prog 6 #[.slice a0 len0 cap0, .int .i64 a1] w fun e w' => e = .returned (.bool true) ∧ Below w.heap.size w w' := by
  rw [MakeChecks.laidMetH_plain _ _ _ (by kernel_rfl)] at hL
  exact cuts_any a0 len0 cap0 z0 a1 _ w (sen_of hL (by intro n hn; simp only [List.mem_cons, List.not_mem_nil, or_false] at hn; rcases hn with rfl | rfl | rfl | rfl | rfl | rfl | rfl | rfl | rfl | rfl | rfl | rfl <;> exact ⟨_, by repeat (first | exact List.Mem.head _ | apply List.Mem.tail)⟩)) (i64_fit2 w1).1 (i64_fit2 w1).2 w0
end Go.Proofs.YtggnaalcdekccaaDoor
