/-
  package dom: domains for whom nobody waits; Make, End; Key.
-/
import Derived.Test.YtahhnfhnlffmpaaDoorDs
import Derived.Maps.OwnSet
namespace Go.Proofs.YtahhnfhnlffmpaaDoor
open Go.ChangeShapes Go.WideShapes Go.ChangeAt Go.RowKit Go.Maps
set_option linter.unusedVariables false
set_option linter.unusedSimpArgs false
theorem dlawI : Keyed Tryd.prog 3 := int_keyed Tryd.underlying3
theorem dzeroU (w : World) : (zeroValue 158).run Tryd.prog w = .ok (.agg #[]) w := by kernel_rfl
theorem dfit {x : Int} (h0 : 0 ≤ x) (h1 : x ≤ 1000) : (Lit.int .i64 x).wf = true := WalkArith.wf_i64 ⟨by omega, by omega⟩
theorem zqhas_n {q o : Nat} (x : Int) (h0 : 0 ≤ x) (h1 : x ≤ 1000) (w : World) (hc : w.cell? ⟨q, o + 1, none⟩ = some (.map none)) :
    Calls Tryd.prog 64 #[.pointer (some ⟨q, o, none⟩), .int .i64 x] w fun e w' => e = .returned (.bool false) ∧ Below w.heap.size w w' := by
  have hl := fun W : World => Maps.look_nil (w := W) true dlawI Tryd.underlying133 (dzeroU W) (keyOf_int_mk Tryd.underlying3 (dfit h0 h1))
  simp only [if_true] at hl
  go_enter Tryd.func64, Tryd.ntmps64
  go_wp2
  go_ret
  exact ⟨rfl, (Below.refl _ _).alloc (Nat.le_refl _) _⟩
theorem zqdrop_n {q o : Nat} (x : Int) (h0 : 0 ≤ x) (h1 : x ≤ 1000) (w : World) (hc : w.cell? ⟨q, o + 1, none⟩ = some (.map none)) :
    Calls Tryd.prog 86 #[.pointer (some ⟨q, o, none⟩), .int .i64 x] w fun e w' => e = .returned (.bool false) ∧ Below w.heap.size w w' := by
  have HC := Lib.hid (zqhas_n x h0 h1 w hc)
  clear hc
  go_enter Tryd.func86, Tryd.ntmps86
  go_wp2_with (first | (go_at_call 64; (with_reducible refine HC.out.mono ?_); rintro e w1 ⟨rfl, hb⟩; have HB := Lib.hid hb; clear hb))
  go_ret
  exact ⟨rfl, HB.out⟩
set_option maxRecDepth 100000 in
theorem dunstall_no {base P p B G Q n c : Nat} {th : Nat → Bool} {vr_ : Nat → Int} {W : Nat → Nat → Value} (x : Int) (h0 : 0 ≤ x) (h1 : x ≤ 1000) (w : World) (h : DsAt w base P p B G Q n c th vr_ W) :
    Calls Tryd.prog 65 #[.pointer (some ⟨P, 0, none⟩), .int .i64 x] w fun e w' => e = .returned (.tuple #[]) ∧ Below w.heap.size w w' := by
  have H := Lib.hid h
  have f2 := h.f2
  have hn := h.pl.ar.le
  clear h
  go_enter Tryd.func65, Tryd.ntmps65
  go_wp2_with fail
  clear f2
  go_loopw [10] (fun i wr => ∃ k : Nat, k ≤ n ∧ i = .int .i64 k ∧ Below w.heap.size w wr) (fun i _ => n - (intOf i).toNat)
  case atStart => exact ⟨0, by omega, rfl, Below.refl _ _⟩
  case round =>
    obtain ⟨k, hk, rfl, hB⟩ := hrel
    have HB := Lib.hid hB
    by_cases hlt : k < n
    · have HR := Lib.hid (H.out.below hB)
      have f2 := HR.out.f2
      have k0 : (0 : Int) ≤ k := by omega
      have k1 : (k : Int) < n := by omega
      clear hB
      go_wp2_with (first | (go_at_call 86; (with_reducible refine (zqdrop_n x h0 h1 _ (HR.out.queue k hlt).2).mono ?_); rintro e w1 ⟨rfl, hb⟩; have HB2 := Lib.hid (HB.out.trans (hb.mono HB.out.size)); clear hb f2))
      go_roundw
      case rel => exact ⟨k + 1, by omega, by go_num, HB2.out⟩
      case measure => simp [intOf]; omega
    · obtain rfl : k = n := by omega
      have hdd : decide (k < k) = false := by simp
      clear hB
      go_wp2_with fail
      go_end0
      exact ⟨rfl, HB.out⟩
set_option maxRecDepth 100000 in
theorem zclone_n (w : World) : Calls Tryd.prog 87 #[.slice none 0 0] w fun e w' => e = .returned (.slice none 0 0) ∧ Below w.heap.size w w' := by
  have hq : ∀ W : World, (binOp .eql 56 (.slice none 0 0) (.slice none 0 0)).run Tryd.prog W = .ok (.bool true) W := fun W => by kernel_rfl
  go_enter Tryd.func87, Tryd.ntmps87
  go_wp2_with fail
  go_ret
  exact ⟨rfl, Below.refl _ _⟩
theorem zall_n {q o : Nat} (w : World) (hc : w.cell? ⟨q, o, none⟩ = some (.slice none 0 0)) : Calls Tryd.prog 67 #[.pointer (some ⟨q, o, none⟩)] w fun e w' => e = .returned (.slice none 0 0) ∧ Below w.heap.size w w' := by
  go_enter Tryd.func67, Tryd.ntmps67
  go_wp2_with (first | (go_at_call 87; (with_reducible refine (zclone_n _).mono ?_); rintro e w1 ⟨rfl, hb⟩; have HB := Lib.hid hb; clear hb))
  go_ret
  exact ⟨rfl, HB.out⟩
theorem dcallers_no {base P p B G Q n c : Nat} {th : Nat → Bool} {vr_ : Nat → Int} {W : Nat → Nat → Value} (k : Nat) (hk : k < n) (ht : Hid (th k = true)) (w : World) (h : DsAt w base P p B G Q n c th vr_ W) :
    Calls Tryd.prog 29 #[.pointer (some ⟨P, 0, none⟩), .int .i64 (k : Int)] w fun e w' => e = .returned (.slice none 0 0) ∧ Below w.heap.size w w' := by
  have H := Lib.hid h
  have f0 := h.pl.f0
  have f2 := h.f2
  have k0 : (0 : Int) ≤ k := by omega
  have k1 : (k : Int) < n := by omega
  clear h
  go_enter Tryd.func29, Tryd.ntmps29
  go_wp2_with (first
    | (go_at_call 21; (with_reducible refine (athere_in k hk true ht _ H.out.pl.ar).mono ?_); rintro e w1 ⟨rfl, rfl⟩)
    | (go_at_call 67; (with_reducible refine (zall_n _ (H.out.queue k hk).1).mono ?_); rintro e w1 ⟨rfl, hb⟩; have HB := Lib.hid hb; clear hb))
  go_ret
  exact ⟨rfl, HB.out⟩
theorem dwake_no {base P p B G Q n c : Nat} {th : Nat → Bool} {vr_ : Nat → Int} {W : Nat → Nat → Value} (k : Nat) (hk : k < n) (ht : Hid (th k = true)) (w : World) (h : DsAt w base P p B G Q n c th vr_ W) :
    Calls Tryd.prog 30 #[.pointer (some ⟨P, 0, none⟩), .int .i64 (k : Int)] w fun e w' => e = .returned (.slice none 0 0) ∧ Below w.heap.size w w' := by
  have HC := Lib.hid (dcallers_no k hk ht w h)
  clear h
  go_enter Tryd.func30, Tryd.ntmps30
  go_wp2_with (first
    | (go_at_call 29; (with_reducible refine HC.out.mono ?_); rintro e w1 ⟨rfl, hb⟩; have HB := Lib.hid hb; clear hb))
  go_ret
  exact ⟨rfl, HB.out⟩
set_option maxRecDepth 100000 in
theorem dend_ok {base P p B G Q n c : Nat} {th : Nat → Bool} {vr_ : Nat → Int} {W : Nat → Nat → Value} (k : Nat) (hk : k < n) (ht : Hid (th k = true)) (v : Int) (hv : Hid (vr_ k = v)) (v0 : -1000000000 ≤ v) (v1 : v ≤ 1000000000) (w : World) (h : DsAt w base P p B G Q n c th vr_ W) :
    Calls Tryd.prog 35 #[.pointer (some ⟨P, 0, none⟩), .int .i64 (k : Int)] w fun e w' => e = .returned .nilIface ∧ DsAt w' base P p B G Q n c (upd th k false) (upd vr_ k (v + 1)) W ∧ PBelow w w' B G := by
  have H := Lib.hid h
  have f0 := h.pl.f0
  have hn := h.pl.ar.le
  clear h
  go_enter Tryd.func35, Tryd.ntmps35
  go_wp2_with (first
    | (go_at_call 21; (with_reducible refine (athere_in k hk true ht _ H.out.pl.ar).mono ?_); rintro e w1 ⟨rfl, rfl⟩)
    | (go_at_call 30; (with_reducible refine (dwake_no k hk ht _ H.out).mono ?_); rintro e w1 ⟨rfl, hb⟩; have HB1 := Lib.hid hb; have H1 := Lib.hid (H.out.below hb); clear hb f0)
    | (go_at_call 65; (with_reducible refine (dunstall_no (k : Int) (by omega) (by omega) _ H1.out).mono ?_); rintro e w2 ⟨rfl, hb⟩; have HB2 := Lib.hid (HB1.out.trans (hb.mono HB1.out.size)); have H2 := Lib.hid (H1.out.below hb); have f9 := H2.out.pl.f0; clear hb)
    | (go_at_call 18; (with_reducible refine (agive_ok _ H2.out.pl.ar k hk ht v hv v0 v1).mono ?_); rintro e w3 ⟨rfl, hA, hg⟩; have H3 := Lib.hid (H2.out.turn hA hg); have HB3 := Lib.hid ((PBelow.of_below (B := B) (G := G) HB2.out).trans (PBelow.of hg (.inl rfl))); clear hA hg f9))
  go_ret
  exact ⟨rfl, H3.out, HB3.out⟩
theorem infoDomS : (Tryd.prog.info? 70).map (·.size) = some 107 := by kernel_rfl
set_option maxRecDepth 100000 in
set_option maxHeartbeats 1000000 in
theorem dmake_ok {base P p B G Q n c : Nat} {th : Nat → Bool} {vr_ : Nat → Int} {W : Nat → Nat → Value} (j : Nat) (hj : j < n) (hyes : Hid (freeB th vr_ j = true)) (hno : Hid (∀ i, i < j → freeB th vr_ i = false)) (v : Int) (hv : Hid (vr_ j = v)) (w : World) (h : DsAt w base P p B G Q n c th vr_ W) :
    Calls Tryd.prog 25 #[.pointer (some ⟨P, 0, none⟩)] w fun e w' => e = .returned (.tuple #[.int .i64 j, .int .i64 v, .nilIface]) ∧ DsAt w' base P p B G Q n c (upd th j true) vr_ (updS W j 0 zsD1) ∧ PBelow w w' B G := by
  have H := Lib.hid h
  have f0 := h.pl.f0
  have hn := h.pl.ar.le
  have k0 : (0 : Int) ≤ j := by omega
  have k1 : (j : Int) < n := by omega
  clear h
  go_enter Tryd.func25, Tryd.ntmps25
  go_upto_region 4 with (first
    | (go_at_call 58; (with_reducible refine (atake_ok _ H.out.pl.ar j hj hyes hno v hv).mono ?_); rintro e w1 ⟨rfl, hA, hg⟩; have H1 := Lib.hid (H.out.turn hA hg); have HB1 := Lib.hid (PBelow.of (G := G) hg (.inl rfl)); have f1 := H1.out.pl.f1; have HTh : Hid (w1.there G (j * 107) 107) := Lib.hid (H1.out.pl.there j 0 107 hj (by decide)); clear hA hg f0))
  go_wp2_with (refine wpList_store_mid (by rfl) _ _ _ (by rfl) G (j * 107) zsD1.toArray (by kernel_rfl) (by rfl) HTh.out (by rw [List.size_toArray, zsD1_len]; exact infoDomS) (all_oneCell_toArray zsD1_one) ?_; obtain ⟨w2, hw2⟩ : ∃ w2, w2 = w1.setCells G (j * 107) zsD1.toArray.toList := ⟨_, rfl⟩; rw [← hw2]; have H2 := Lib.hid (H1.out.cells j 0 hj zsD1 (by rw [zsD1_len]; decide)); rw [Nat.add_zero, show zsD1 = zsD1.toArray.toList from rfl, ← hw2] at H2; clear hw2)
  go_ret3
  exact ⟨rfl, H2.out.1, HB1.out.trans (PBelow.of H2.out.2 (.inr rfl))⟩
end Go.Proofs.YtahhnfhnlffmpaaDoor
