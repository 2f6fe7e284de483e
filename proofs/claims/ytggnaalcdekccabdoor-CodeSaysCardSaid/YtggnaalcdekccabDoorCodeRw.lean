/-
  CodeRows: the walks.
-/
import Derived.Test.YtggnaalcdekccabDoorCodeR
import Derived.Test.YtggnaalcdekccabDoorCodeLd
namespace Go.Proofs.YtggnaalcdekccabDoor
open Go.ChangeShapes Go.WideShapes Go.ChangeAt Go.RowKit
set_option linter.unusedVariables false
def VS (A : Nat → Addr) (W w : World) : Prop := VC (sA A 10) (sA A 2) W w ∧ Sen A w
theorem VS.step {A : Nat → Addr} {W w w' : World} (h : VS A W w) (hb : Below w.heap.size w w') : VS A W w' := ⟨h.1.step hb, h.2.below hb⟩
theorem VS.vc {A : Nat → Addr} {W w : World} (h : VS A W w) : VC (sA A 10) (sA A 2) W w := h.1
theorem VS.bel {A : Nat → Addr} {W w : World} (h : VS A W w) : Below W.heap.size W w := h.1.1
theorem VS.self {A : Nat → Addr} {W w : World} (h : VS A W w) : VS A w w := ⟨⟨Below.refl _ _, h.1.2⟩, h.2⟩
theorem VS.after {A : Nat → Addr} {W w w' : World} (h : VS A W w) (h' : VS A w w') : VS A W w' := h.step h'.bel
/-- The row of words that Words handed out. -/
def RowAt (w : World) (g n : Nat) (zs : List (List Int)) : Prop := g < w.heap.size ∧ ∀ k, k < n → w.cell? ⟨g, k, none⟩ = some (.int .u32 (zw zs k))
theorem RowAt.below {w w' : World} {g n : Nat} {zs : List (List Int)} (h : RowAt w g n zs) (hb : Below w.heap.size w w') : RowAt w' g n zs := ⟨Nat.lt_of_lt_of_le h.1 hb.size, fun k hk => (hb.cell (p := ⟨g, k, none⟩) h.1).trans (h.2 k hk)⟩
theorem words_row (ad : Addr) (n cap : Nat) (zs : List (List Int)) (x y : Addr) (w : World) (hA : VC x y w w) (hI : InsAt w ad n zs) (h0 : 0 < n) (hn : n ≤ 1000) (hok : Hid (∀ i, i < n → zok zs i = true)) :
    Calls Tryd.prog 19 #[.slice (some ad) n cap] w fun e w' => ∃ g c, e = .returned (.tuple #[.slice (some ⟨g, 0, none⟩) n c, .nilIface]) ∧ RowAt w' g n zs ∧ Below w.heap.size w w' := by
  refine (words_ok ad n cap zs x y w hA hI hn hok).mono fun e w' ⟨v', he, hown, hb⟩ => ?_
  have ho := hown
  rcases hown.2 with ⟨rfl, h0', _⟩ | ⟨g, c, cur, rfl, hB, hg, rest⟩
  · omega
  · refine ⟨g, c, he, ⟨?_, fun k hk => ?_⟩, hb⟩
    · rcases Nat.lt_or_ge g w'.heap.size with h' | h'
      · exact h'
      · simp [Array.getElem?_eq_none h'] at hg
    · rw [ho.cellAt k (by omega), zws_at zs n k hk]
theorem words_zero (a : Option Addr) (cap : Nat) (w : World) :
    Calls Tryd.prog 19 #[.slice a 0 cap] w fun e w' => e = .returned (.tuple #[.slice none 0 0, .nilIface]) ∧ Below w.heap.size w w' := by
  go_enter Tryd.func19, Tryd.ntmps19
  go_wp2_with fail
  go_loopw [4, 11] (fun v i wr => v = .slice none 0 0 ∧ i = .int .i64 0 ∧ wr = w) (fun _ _ _ => 0)
  case atStart => exact ⟨rfl, rfl, rfl⟩
  case round =>
    obtain ⟨rfl, rfl, rfl⟩ := hrel
    go_wp2
    go_ret2
    exact ⟨rfl, Below.refl _ _⟩
theorem rows_zero (a : Option Addr) (n cap : Nat) (h0 : n = 0) (A : Nat → Addr) (w : World) (hA : VS A w w) : Calls Tryd.prog 5 #[.slice a n cap] w fun e w' => e = .returned (.bool true) ∧ Below w.heap.size w w' := by
  subst h0
  go_enter Tryd.func5, Tryd.ntmps5
  go_wp2_with (first | (go_at_call 7; (with_reducible refine (cfirst_any _ _ _ hA.vc.code hA.vc.tells).mono ?_); rintro e w1 ⟨rfl, hb⟩; replace hA := hA.step hb; clear hb) | (go_at_call 19; (with_reducible refine (words_zero a cap _).mono ?_); rintro e w2 ⟨rfl, hb⟩; replace hA := hA.step hb; clear hb))
  go_loopw [6] (fun i wr => i = .int .i64 0 ∧ wr = w2) (fun _ _ => 0)
  case atStart => exact ⟨rfl, rfl⟩
  case round =>
    obtain ⟨rfl, rfl⟩ := hrel
    go_wp2
    go_ret
    exact ⟨rfl, hA.bel⟩
theorem rows_big (a : Option Addr) (n cap : Nat) (h0 : 30 < n) (hm : n ≤ 9223372036854775807) (A : Nat → Addr) (w : World) (hA : VS A w w) : Calls Tryd.prog 5 #[.slice a n cap] w fun e w' => e = .returned (.bool true) ∧ Below w.heap.size w w' := by
  have hd : decide ((30 : Int) < (n : Int)) = true := by simp; omega
  go_enter Tryd.func5, Tryd.ntmps5
  go_wp2_with (first | (go_at_call 7; (with_reducible refine (cfirst_any _ _ _ hA.vc.code hA.vc.tells).mono ?_); rintro e w1 ⟨rfl, hb⟩; replace hA := hA.step hb; clear hb))
  go_ret
  exact ⟨rfl, hA.bel⟩
set_option maxRecDepth 100000 in
set_option maxHeartbeats 2000000 in
theorem rows_good (ad : Addr) (a : Option Addr) (ha : a = some ad) (n cap : Nat) (h0 : 0 < n) (h30 : n ≤ 30) (zs : List (List Int)) (A : Nat → Addr) (w : World) (hA : VS A w w) (hI : InsAt w ad n zs) (hok : Hid (∀ i, i < n → zok zs i = true)) : Calls Tryd.prog 5 #[.slice a n cap] w fun e w' => e = .returned (.bool true) ∧ Below w.heap.size w w' := by
  subst ha
  have hd : decide ((30 : Int) < (n : Int)) = false := by simp; omega
  have HI := Lib.hid hI
  clear hI
  go_enter Tryd.func5, Tryd.ntmps5
  go_wp2_with (first | (go_at_call 7; (with_reducible refine (cfirst_any _ _ _ hA.vc.code hA.vc.tells).mono ?_); rintro e w1 ⟨rfl, hb⟩; replace hA := hA.step hb; clear hb) | (go_at_call 19; (with_reducible refine (words_row ad n cap zs _ _ _ hA.self.vc (HI.out.below hA.bel) h0 (by omega) hok).mono ?_); rintro e w2 ⟨g, c, rfl, hR, hb⟩; replace hA := hA.step hb; clear hb))
  have HA := Lib.hid hA
  have HR := Lib.hid hR
  clear hA hR
  go_loopw [6] (fun i wr => ∃ k : Nat, k ≤ n ∧ i = .int .i64 k ∧ VS A w wr ∧ RowAt wr g n zs) (fun i _ => n - (intOf i).toNat)
  case atStart => exact ⟨0, by omega, rfl, HA.out, HR.out⟩
  case round =>
    obtain ⟨k, hk, rfl, hV, hR⟩ := hrel
    by_cases hlt : k < n
    · have hI' := HI.out.below hV.bel
      obtain ⟨y0, y1, y2, y3, y4, hin, hyo, hyw⟩ := hI'.one k hlt
      obtain ⟨c0, c1, c2, c3, c4⟩ := hin
      have HK : Hid (okB y0 y1 y2 y3 y4 = true) := Lib.hid (hyo.out.trans (hok.out k hlt))
      obtain ⟨l, hl⟩ : ∃ l, Hid (zw zs k = l) := ⟨_, Lib.hid rfl⟩
      have HL : Hid (wordC y0 y1 y2 y3 y4 = l) := Lib.hid (hyw.out.trans hl.out)
      have HV := Lib.hid hV
      have HR := Lib.hid hR
      have hd2 : decide (n ≤ k) = false := by simp; omega
      clear hV hR hI' hyo hyw
      go_wp2_with (first | (go_at_call 10; (with_reducible refine (cword_ok y0 y1 y2 y3 y4 _ _ _ HV.out.vc.code HK l HL).mono ?_); rintro e w3 ⟨rfl, hb⟩; have HV3 := Lib.hid (HV.out.step hb); have HR3 := Lib.hid (HR.out.below hb); have hcl := (HR.out.below hb).2 k hlt; rw [hl.out] at hcl; clear hb c0 c1 c2 c3 c4))
      go_roundw
      case rel => exact ⟨k + 1, by omega, by go_num, HV3.out, HR3.out⟩
      case measure => simp [intOf]; omega
    · obtain rfl : n = k := by omega
      have hdd : decide (n < n) = false := by simp
      have HV := Lib.hid hV
      clear hV hR
      go_wp2
      go_ret
      exact ⟨by simp, HV.out.bel⟩
theorem same_yes {e : Value} {c n : Int} {W w : World} (hF : FaultIs e c n true W) (hB : Below W.heap.size W w) : Calls Tryd.prog 20 #[e, Value.agg #[.int .i64 c, .bool true, .int .i64 n]] w fun e' w' => e' = .returned (.bool true) ∧ Below w.heap.size w w' := by
  have h := same_any e c n c n true true w (hF.later hB)
  have hb : faultB c n c n true true = true := by simp [faultB]
  rwa [hb] at h
theorem fault_run {e : Value} {c n : Int} {p : Bool} {W w : World} (hF : FaultIs e c n p W) (hB : Below W.heap.size W w) : Calls Tryd.prog 22 #[e] w fun e' w' => e' = .returned (Value.agg #[.int .i64 c, .bool p, .int .i64 n]) ∧ Below w.heap.size w w' := hF w hB
set_option maxRecDepth 100000 in
set_option maxHeartbeats 2000000 in
theorem rows_bad (ad : Addr) (a : Option Addr) (ha : a = some ad) (n cap : Nat) (h30 : n ≤ 30) (zs : List (List Int)) (j : Nat) (hj : j < n) (A : Nat → Addr) (q : Nat) (hq : q < 12) (hz : Hid ((if decide (1 ≤ zf zs j 0 ∧ zf zs j 0 ≤ 13) = true then sA A 2 else sA A 10) = sA A q)) (c : Int) (hc : Hid (101 + (q : Int) = c)) (hc0 : (c == 0) = false) (w : World) (hA : VS A w w) (hI : InsAt w ad n zs) (hok : Hid (∀ i, i < j → zok zs i = true)) (hbad : Hid (zok zs j = false)) : Calls Tryd.prog 5 #[.slice a n cap] w fun e w' => e = .returned (.bool true) ∧ Below w.heap.size w w' := by
  subst ha
  have hd : decide ((30 : Int) < (n : Int)) = false := by simp; omega
  have HI := Lib.hid hI
  have HC0 := Lib.hid hc0
  clear hI hc0
  have hfd : ∀ w : World, (Instr.field 51 (.agg #[.int .i64 c, .bool false, .int .i64 0]) 0).run Tryd.prog w = .ok (.int .i64 c) w := fun _ => by kernel_rfl
  obtain ⟨z, ez⟩ : ∃ z, Hid (z = sA A q) := ⟨_, Lib.hid rfl⟩
  have HZ : Hid ((if decide (1 ≤ zf zs j 0 ∧ zf zs j 0 ≤ 13) = true then sA A 2 else sA A 10) = z) := Lib.hid (by rw [ez.out]; exact hz.out)
  clear hz
  go_enter Tryd.func5, Tryd.ntmps5
  go_wp2_with (first | (go_at_call 7; (with_reducible refine (cfirst_any _ _ _ hA.vc.code hA.vc.tells).mono ?_); rintro e w1 ⟨rfl, hb⟩; replace hA := hA.step hb; clear hb) | (go_at_call 19; (with_reducible refine (words_bad ad n cap zs j hj _ _ z HZ _ hA.self.vc (HI.out.below hA.bel) (by omega) hok hbad).mono ?_); rintro e w2 ⟨p, rfl, hp1, hp2, hp3, hb⟩; replace hA := hA.step hb; clear hb))
  have HE : Hid (FaultIs (Value.iface 66 (.pointer (some ⟨p, 0, none⟩))) c j true w2) := Lib.hid (by rw [← hc.out]; exact FaultIs.at hA.2 q hq j p ⟨hp1, hp2, by rw [← ez.out]; exact hp3⟩)
  have HF : Hid (FaultIs (errC z) c 0 false w2) := Lib.hid (by rw [← hc.out, ez.out]; exact FaultIs.err hA.2 q hq)
  have HA := Lib.hid hA
  clear hA hp1 hp2 hp3 ez
  go_loopw [6] (fun i wr => ∃ k : Nat, k ≤ j ∧ i = .int .i64 k ∧ VS A w wr ∧ Below w2.heap.size w2 wr) (fun i _ => n - (intOf i).toNat)
  case atStart => exact ⟨0, by omega, rfl, HA.out, Below.refl _ _⟩
  case round =>
    obtain ⟨k, hk, rfl, hV, hB⟩ := hrel
    have hkn : k < n := by omega
    have hI' := HI.out.below (w' := wr) hV.bel
    by_cases hlt : k < j
    · obtain ⟨y0, y1, y2, y3, y4, hin, hyo, hyw⟩ := hI'.one k hkn
      obtain ⟨c0, c1, c2, c3, c4⟩ := hin
      have HK : Hid (okB y0 y1 y2 y3 y4 = true) := Lib.hid (hyo.out.trans (hok.out k hlt))
      obtain ⟨l, hl⟩ : ∃ l, Hid (wordC y0 y1 y2 y3 y4 = l) := ⟨_, Lib.hid rfl⟩
      have HV := Lib.hid hV
      have HB := Lib.hid hB
      clear hV hB hI' hyo hyw
      go_wp2_with (first | (go_at_call 10; (with_reducible refine (cword_ok y0 y1 y2 y3 y4 _ _ _ HV.out.vc.code HK l hl).mono ?_); rintro e w3 ⟨rfl, hb⟩; have HV3 := Lib.hid (HV.out.step hb); have HB3 := Lib.hid (HB.out.trans (hb.mono HB.out.size)); clear hb c0 c1 c2 c3 c4))
      go_roundw
      case rel => exact ⟨k + 1, by omega, by go_num, HV3.out, HB3.out⟩
      case measure => simp [intOf]; omega
    · obtain rfl : j = k := by omega
      obtain ⟨c0, c1, c2, c3, c4⟩ := hI'.in j hkn
      have HK : Hid (okB (zf zs j 0) (zf zs j 1) (zf zs j 2) (zf zs j 3) (zf zs j 4) = false) := hbad
      generalize zf zs j 0 = y0, zf zs j 1 = y1, zf zs j 2 = y2, zf zs j 3 = y3, zf zs j 4 = y4 at *
      have HV := Lib.hid hV
      have HB := Lib.hid hB
      clear hV hB hI'
      go_wp2_with (first
        | (go_at_call 10; (with_reducible refine (cword_no y0 y1 y2 y3 y4 _ _ _ HV.out.vc.code z HZ HK).mono ?_); rintro e w3 ⟨rfl, hb⟩; have HV3 := Lib.hid (HV.out.step hb); have HB3 := Lib.hid (HB.out.trans (hb.mono HB.out.size)); clear hb c0 c1 c2 c3 c4)
        | (go_at_call 22; (with_reducible refine (fault_run HF.out HB3.out).mono ?_); rintro e w4 ⟨rfl, hb⟩; have HV4 := Lib.hid (HV3.out.step hb); have HB4 := Lib.hid (HB3.out.trans (hb.mono HB3.out.size)); clear hb)
        | (go_at_call 21; (with_reducible refine (placed_is c _ HC0.out _).mono ?_); rintro e w5 ⟨rfl, hb⟩; have HV5 := Lib.hid (HV4.out.step hb); have HB5 := Lib.hid (HB4.out.trans (hb.mono HB4.out.size)); clear hb)
        | (go_at_call 20; (with_reducible refine (same_yes HE.out HB5.out).mono ?_); rintro e w6 ⟨rfl, hb⟩; have HV6 := Lib.hid (HV5.out.step hb); clear hb))
      go_ret
      exact ⟨rfl, HV6.out.bel⟩
theorem cell_lt3 {w : World} {x : Addr} {v : Value} (h : w.cell? x = some v) : x.block < w.heap.size := by
  rcases Nat.lt_or_ge x.block w.heap.size with h' | h'
  · exact h'
  · simp [World.cell?, Array.getElem?_eq_none h'] at h
/-- The first place at which a test fails, if any. -/
theorem first_bad (P : Nat → Bool) : ∀ n, (∀ i, i < n → P i = true) ∨ ∃ j, j < n ∧ P j = false ∧ ∀ i, i < j → P i = true
  | 0 => .inl fun i hi => absurd hi (by omega)
  | n + 1 => by
    rcases first_bad P n with h | ⟨j, hj, h1, h2⟩
    · cases hn : P n
      · exact .inr ⟨n, by omega, hn, h⟩
      · refine .inl fun i hi => ?_
        by_cases e : i = n
        · rw [e]; exact hn
        · exact h i (by omega)
    · exact .inr ⟨j, by omega, h1, h2⟩
theorem rows_any (a : Option Addr) (n cap : Nat) (zs : List (List Int)) (A : Nat → Addr) (w : World) (hA : VS A w w) (h : IsRows [.i64, .i64, .i64, .i64, .i64] w a n cap zs) : Calls Tryd.prog 5 #[.slice a n cap] w fun e w' => e = .returned (.bool true) ∧ Below w.heap.size w w' := by
  by_cases h0 : n = 0
  · exact rows_zero a n cap h0 A w hA
  rcases h with ⟨-, h1, -, -⟩ | ⟨ad, rfl, hle, hm, hzl, hcell⟩
  · exact absurd h1 h0
  by_cases h30 : n ≤ 30
  · have hI : InsAt w ad n zs := by
      refine ⟨?_, fun i hi => ?_⟩
      · have := cell_lt3 (hcell 0 (by omega) 0 .i64 rfl).1
        rwa [add_block] at this
      · have hz : i < zs.length := by omega
        exact ⟨(hcell i hz 0 .i64 rfl).1, (hcell i hz 1 .i64 rfl).1, (hcell i hz 2 .i64 rfl).1, (hcell i hz 3 .i64 rfl).1, (hcell i hz 4 .i64 rfl).1⟩
    rcases first_bad (zok zs) n with hok | ⟨j, hj, hbad, hok⟩
    · exact rows_good ad _ rfl n cap (by omega) h30 zs A w hA hI (Lib.hid hok)
    · by_cases hd : 1 ≤ zf zs j 0 ∧ zf zs j 0 ≤ 13
      · exact rows_bad ad _ rfl n cap h30 zs j hj A 2 (by decide) (Lib.hid (if_pos (by simpa using hd))) 103 (Lib.hid rfl) (by decide) w hA hI (Lib.hid hok) (Lib.hid hbad)
      · exact rows_bad ad _ rfl n cap h30 zs j hj A 10 (by decide) (Lib.hid (if_neg (by simpa using hd))) 111 (Lib.hid rfl) (by decide) w hA hI (Lib.hid hok) (Lib.hid hbad)
  · refine rows_big _ n cap (by omega) ?_ A w hA
    unfold maxLen at hm
    omega
theorem sen_all {l : List (String × DataW Unit)} {w : World} (h : laidMet Tryd.prog l w)
    (hl : ∀ n ∈ ["turnkey/api.ErrEnd", "turnkey/api.ErrShape", "turnkey/api.ErrRange", "turnkey/api.ErrMany", "turnkey/api.ErrNone", "turnkey/api.ErrFull", "turnkey/api.ErrLimit", "turnkey/api.ErrOwn", "turnkey/api.ErrState", "turnkey/api.ErrRight", "turnkey/api.ErrWord", "turnkey/api.ErrNumber"], ∃ t, (n, DataW.iface "*errors.errorString" (.ptr (.agg [.lit (.string t)]))) ∈ l) : Sen (atErr w) w := by
  refine errs_are h (fun g hg => ?_)
  unfold G12 at hg
  simp only [List.mem_cons, List.not_mem_nil, or_false] at hg
  rcases hg with rfl | rfl | rfl | rfl | rfl | rfl | rfl | rfl | rfl | rfl | rfl | rfl
  · obtain ⟨t, ht⟩ := hl "turnkey/api.ErrEnd" (by simp); exact ⟨_, t, ht, gErrEnd, tErrEnd⟩
  · obtain ⟨t, ht⟩ := hl "turnkey/api.ErrShape" (by simp); exact ⟨_, t, ht, gErrShape, tErrShape⟩
  · obtain ⟨t, ht⟩ := hl "turnkey/api.ErrRange" (by simp); exact ⟨_, t, ht, gErrRange, tErrRange⟩
  · obtain ⟨t, ht⟩ := hl "turnkey/api.ErrMany" (by simp); exact ⟨_, t, ht, gErrMany, tErrMany⟩
  · obtain ⟨t, ht⟩ := hl "turnkey/api.ErrNone" (by simp); exact ⟨_, t, ht, gErrNone, tErrNone⟩
  · obtain ⟨t, ht⟩ := hl "turnkey/api.ErrFull" (by simp); exact ⟨_, t, ht, gErrFull, tErrFull⟩
  · obtain ⟨t, ht⟩ := hl "turnkey/api.ErrLimit" (by simp); exact ⟨_, t, ht, gErrLimit, tErrLimit⟩
  · obtain ⟨t, ht⟩ := hl "turnkey/api.ErrOwn" (by simp); exact ⟨_, t, ht, gErrOwn, tErrOwn⟩
  · obtain ⟨t, ht⟩ := hl "turnkey/api.ErrState" (by simp); exact ⟨_, t, ht, gErrState, tErrState⟩
  · obtain ⟨t, ht⟩ := hl "turnkey/api.ErrRight" (by simp); exact ⟨_, t, ht, gErrRight, tErrRight⟩
  · obtain ⟨t, ht⟩ := hl "turnkey/api.ErrWord" (by simp); exact ⟨_, t, ht, gErrWord, tErrWord⟩
  · obtain ⟨t, ht⟩ := hl "turnkey/api.ErrNumber" (by simp); exact ⟨_, t, ht, gErrNumber, tErrNumber⟩
theorem walk_CodeRows (a0 : Option Addr) (len0 cap0 : Nat) (z0 : List (List Int)) (w : World) (w0 : IsRows [.i64, .i64, .i64, .i64, .i64] w a0 len0 cap0 z0) (hL : laidMetH Tryd.prog Rows.codeRowsRow.laid w) :
    Calls Tryd.prog 5 #[.slice a0 len0 cap0] w fun e w' => e = .returned (.bool true) ∧ Below w.heap.size w w' := by
  rw [MakeChecks.laidMetH_plain _ _ _ (by kernel_rfl)] at hL
  have hC := code_of hL ⟨_, by repeat (first | exact List.Mem.head _ | apply List.Mem.tail)⟩ ⟨_, by repeat (first | exact List.Mem.head _ | apply List.Mem.tail)⟩ (by repeat (first | exact List.Mem.head _ | apply List.Mem.tail))
  have hT := tells_of hL (by repeat (first | exact List.Mem.head _ | apply List.Mem.tail)) (by repeat (first | exact List.Mem.head _ | apply List.Mem.tail)) (by repeat (first | exact List.Mem.head _ | apply List.Mem.tail))
  have hS := sen_all hL (by
    intro n hn
    simp only [List.mem_cons, List.not_mem_nil, or_false] at hn
    rcases hn with rfl | rfl | rfl | rfl | rfl | rfl | rfl | rfl | rfl | rfl | rfl | rfl
    all_goals exact ⟨_, by repeat (first | exact List.Mem.head _ | apply List.Mem.tail)⟩)
  exact rows_any a0 len0 cap0 z0 (atErr w) w ⟨⟨Below.refl _ _, hC, hT⟩, hS⟩ w0
end Go.Proofs.YtggnaalcdekccabDoor
