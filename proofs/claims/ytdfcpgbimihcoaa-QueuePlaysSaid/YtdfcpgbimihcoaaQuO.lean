/-
  turnkeyref.Ints, SameInts; QueueOwn.
-/
import Derived.Test.YtdfcpgbimihcoaaQuT
namespace Go.Proofs.Ytdfcpgbimihcoaa
open Go.ChangeShapes Go.WideShapes Go.ChangeAt Go.RowKit Go.Maps
set_option linter.unusedVariables false
/-- Numbers are read there. -/
def RI (w : World) (a : Option Addr) (xs : List Int) : Prop := ∀ i, i < xs.length → ∃ ad, a = some ad ∧ ad.block < w.heap.size ∧ w.cell? (ad.add i) = some (.int .i64 (xs.getD i 0))
theorem RI.below {w w' : World} {a : Option Addr} {xs : List Int} (h : RI w a xs) (hb : Below w.heap.size w w') : RI w' a xs := by
  intro i hi
  obtain ⟨ad, h1, h2, h3⟩ := h i hi
  exact ⟨ad, h1, Nat.lt_of_lt_of_le h2 hb.size, (hb.cell (p := ad.add i) (by rw [add_block']; exact h2)).trans h3⟩
theorem own_ri {w : World} {B n c : Nat} {a : Option Addr} {xs : List Int} (h : w.ownsRow B 3 1 (.slice a n c) n (xs.map (Value.int .i64))) (hn : xs.length = n) : RI w a xs := by
  intro i hi
  rcases h.2 with ⟨_, h0⟩ | ⟨g, cap, cur, hv, hB, hg, rest⟩
  · omega
  · obtain rfl : a = some ⟨g, 0, none⟩ := by simp at hv; exact hv.1
    refine ⟨_, rfl, lt_heap hg, ?_⟩
    have := h.cellAt i (by omega)
    rw [show (Addr.add ⟨g, 0, none⟩ i) = ⟨g, i, none⟩ by (simp [Addr.add]; exact fun h => h.symm), this]
    simp [List.getD, hi]
theorem below_dN {w w' : World} {B : Nat} (h : Below B w w') (n : Nat) : Below B w (w'.drewN n) := ⟨h.os, h.tape, h.output, h.size, h.block⟩
set_option maxRecDepth 100000 in
theorem sameints_yes (a b : Option Addr) (ca cb n : Nat) (xs : List Int) (hn : Hid (xs.length = n)) (hm : n ≤ 1000000) (w : World) (hx : RI w a xs) (hy : RI w b xs) :
    Calls Try.prog 14 #[.slice a n ca, .slice b n cb] w fun e w' => e = .returned (.bool true) ∧ Below w.heap.size w w' := by
  have HX := Lib.hid hx
  have HY := Lib.hid hy
  clear hx hy
  go_enter Try.func14, Try.ntmps14
  go_wp2_with fail
  go_loopw [5] (fun i wr => ∃ k : Nat, k ≤ n ∧ i = .int .i64 k ∧ Below w.heap.size w wr) (fun i _ => n - (intOf i).toNat)
  case atStart => exact ⟨0, by omega, rfl, Below.refl _ _⟩
  case round =>
    obtain ⟨k, hk, rfl, hb⟩ := hrel
    have HB := Lib.hid hb
    by_cases hlt : k < n
    · obtain ⟨ad, rfl, h1, c1⟩ := (HX.out.below hb) k (by rw [hn.out]; exact hlt)
      obtain ⟨bd, rfl, h2, c2⟩ := (HY.out.below hb) k (by rw [hn.out]; exact hlt)
      generalize xs.getD k 0 = x at c1 c2
      have k0 : (0 : Int) ≤ (k : Int) := by omega
      have k1 : (k : Int) < (n : Int) := by omega
      clear hb h1 h2
      go_wp2_with fail
      go_quiet (fail)
      go_wp2
      go_roundw
      case rel => exact ⟨k + 1, by omega, by go_num, below_dN HB.out _⟩
      case measure => simp [intOf]; omega
    · obtain rfl : n = k := by omega
      have hdd : decide (n < n) = false := by simp
      clear hb
      go_wp2_with fail
      go_ret
      exact ⟨rfl, HB.out⟩
set_option maxRecDepth 100000 in
set_option maxHeartbeats 1000000 in
theorem ints_is (a : Option Addr) (c n : Nat) (xs : List Int) (hn : Hid (xs.length = n)) (hm : n ≤ 1000000) (w : World) (hx : RI w a xs) :
    Calls Try.prog 18 #[.slice a n c] w fun e w' => ∃ v', e = .returned v' ∧ w'.ownsRow w.heap.size 3 1 v' n (xs.map (Value.int .i64)) ∧ Below w.heap.size w w' := by
  have HX := Lib.hid hx
  clear hx
  obtain ⟨i0, hi, hz0, hz1, hz2⟩ := info_parts infoInt
  have HI := Lib.hid (⟨hi, hz0, hz1, hz2⟩ : Try.prog.info? 3 = some i0 ∧ i0.zero = some (.int .i64 0) ∧ i0.size = 1 ∧ i0.bytes = 8)
  clear hi hz0 hz1 hz2
  go_enter Try.func18, Try.ntmps18
  go_wp2_with (first | (at_make; refine wpList_make_own _ rfl _ _ 24 rfl w.heap.size 3 i0 (.int .i64 0) 1 Try.underlying24 HI.out.1 HI.out.2.1 HI.out.2.2.1 .i64 .i64 _ n rfl rfl (by omega) ?b2 ?b3 ?b4 ?_))
  case b2 => rw [HI.out.2.2.2]; omega
  case b3 => unfold maxLen; omega
  case b4 => exact Nat.le_refl _
  intro w1 hown hgrow
  have hb1 : Below w.heap.size w w1 := (Below.refl _ _).grown hgrow (Nat.le_refl _) (fun k hk => by cases hk)
  have HO := Lib.hid hown
  have HB1 := Lib.hid hb1
  clear hown hgrow hb1
  go_wp2_with fail
  go_loopw [3, 4] (fun b i wr => ∃ k : Nat, k ≤ n ∧ i = .int .i64 k ∧ wr.ownsRow w.heap.size 3 1 b k ((xs.take k).map (Value.int .i64)) ∧ Below w.heap.size w wr) (fun _ i _ => n - (intOf i).toNat)
  case atStart => exact ⟨0, by omega, rfl, by simpa using HO.out, HB1.out⟩
  case round =>
    obtain ⟨k, hk, rfl, hown, hbel⟩ := hrel
    have HW := Lib.hid hown
    have HL := Lib.hid hbel
    by_cases hlt : k < n
    · have hkx : k < xs.length := by rw [hn.out]; exact hlt
      obtain ⟨ad, rfl, h1, c1⟩ := (HX.out.below hbel) k hkx
      have E1 := Lib.hid (take_succ' xs k hkx)
      generalize xs.getD k 0 = x at c1 E1
      have k0 : (0 : Int) ≤ (k : Int) := by omega
      have k1 : (k : Int) < (n : Int) := by omega
      clear hown hbel h1 hkx
      go_wp2_with (first | (at_builtin; refine wpList_append_own _ rfl _ _ 24 rfl w.heap.size 3 i0 (.int .i64 0) 1 8 Try.underlying24 HI.out.1 HI.out.2.1 HI.out.2.2.1 HI.out.2.2.2 rfl (by decide) _ _ _ rfl (HW.out.alloc _) ⟨wr.heap.size, 0, none⟩ 1 1 [.int .i64 x] rfl rfl (cell_one_new _ _ _) (ints_oneCell .i64 [x]) (by unfold maxLen; omega) (by omega) (by have := HL.out.size; simp; omega) ?_))
      intro v' w2 hown' hgrow' _
      have HB2 : Hid (Below w.heap.size w w2) := Lib.hid ((HL.out.alloc HL.out.size _).grown hgrow' (by have := HL.out.size; simp; omega) (fun g hg => (HW.out.lt g hg).1))
      have HO2 : Hid (w2.ownsRow w.heap.size 3 1 v' (k + 1) ((xs.take (k + 1)).map (Value.int .i64))) := Lib.hid (by rw [E1.out, List.map_append, List.map_take]; exact hown')
      clear hown' hgrow' c1
      go_wp2
      go_roundw
      case rel => exact ⟨k + 1, by omega, by go_num, HO2.out, HB2.out⟩
      case measure => simp [intOf]; omega
    · obtain rfl : n = k := by omega
      have hdd : decide (n < n) = false := by simp
      clear hown hbel
      go_wp2_with fail
      go_ret
      refine ⟨_, rfl, ?_, HL.out⟩
      have := HW.out
      rw [List.take_of_length_le (by rw [hn.out]; exact Nat.le_refl _)] at this
      exact this
theorem src_arg {W w : World} {base q b : Nat} {l zs : List Int} {S : Nat → Prop} {a : Option Addr} (h : QV W w base q b l S) (hr : RI W a zs) (hv : ∀ x ∈ zs, wfI x) : Src w a zs S := by
  refine ⟨hv, fun hz => ?_⟩
  have hp : 0 < zs.length := List.length_pos_iff.2 hz
  obtain ⟨ad, h1, h2, _⟩ := hr 0 hp
  have hb := h.bel.size
  have hw := h.wb
  refine ⟨ad, h1, by omega, fun hs => by have := h.qi.lo _ hs; omega, fun i hi => ?_⟩
  obtain ⟨ad', h1', h2', h3⟩ := hr i hi
  obtain rfl : ad' = ad := by rw [h1] at h1'; injection h1' with e; exact e.symm
  exact (h.bel.cell (p := ad'.add i) (by rw [add_block']; exact h2')).trans h3
theorem ri_row {w : World} {a : Option Addr} {len cap : Nat} {zs : List Int} (h : IsRow .i64 w a len cap zs) : ∃ xs : List Int, xs.length = len ∧ RI w a xs ∧ (∀ x ∈ xs, wfI x) ∧ len ≤ 9223372036854775807 := by
  rcases h with ⟨rfl, rfl, -, -⟩ | ⟨x, rfl, h1, h2, h3, h4, h5⟩
  · exact ⟨[], rfl, fun i hi => by simp at hi, by simp, by omega⟩
  · refine ⟨zs.take len, by simp; omega, fun i hi => ?_, fun y hy => h5 y (List.mem_of_mem_take hy), by unfold maxLen at h2; omega⟩
    have hi' : i < len := by simp at hi; omega
    have hc := h4 i (by omega)
    refine ⟨x, rfl, ?_, ?_⟩
    · rcases Nat.lt_or_ge x.block w.heap.size with h' | h'
      · exact h'
      · have e : (x.add i).block = x.block := add_block' x i
        simp [World.cell?, e, Array.getElem?_eq_none h'] at hc
    · rw [hc]
      simp [List.getD, hi']
/-- The law's state while what was handed out is changed. -/
structure OwnR (W w : World) (q b n c : Nat) (l : List Int) (S : Nat → Prop) (a aw : Option Addr) : Prop where
  qv : QV W w q q b l S
  row : ∃ ys : List Int, ys.length = n ∧ w.ownsRow W.heap.size 3 1 (.slice a n c) n (ys.map (Value.int .i64))
  was : RI w aw l
  ns : ∀ ad, a = some ad → ¬ S ad.block ∧ ∀ bd, aw = some bd → bd.block ≠ ad.block
theorem OwnR.at {W w : World} {q b n c : Nat} {l : List Int} {S : Nat → Prop} {a aw : Option Addr} (h : OwnR W w q b n c l S a aw) (k : Nat) (hk : k < n) : ∃ g x, a = some ⟨g, 0, none⟩ ∧ w.cell? ⟨g, k, none⟩ = some (.int .i64 x) ∧ w.frozen? ⟨g, k, none⟩ = false := by
  obtain ⟨ys, hy, hr⟩ := h.row
  obtain ⟨g, c', hv⟩ := owns_slice hr (by omega)
  obtain rfl : a = some ⟨g, 0, none⟩ := by simp at hv; exact hv.1
  refine ⟨g, ys.getD k 0, rfl, ?_, hr.frozenAt k⟩
  rw [hr.cellAt k (by omega)]
  have : k < ys.length := by omega
  simp [List.getD, this]
theorem OwnR.put {W w : World} {q b n c g : Nat} {l : List Int} {S : Nat → Prop} {aw : Option Addr} (h : OwnR W w q b n c l S (some ⟨g, 0, none⟩) aw) (k : Nat) (x : Int) : OwnR W (w.setCell ⟨g, k, none⟩ (.int .i64 x)) q b n c l S (some ⟨g, 0, none⟩) aw := by
  obtain ⟨ys, hy, hr⟩ := h.row
  have hs := hr.stored k (.int .i64 x)
  have hg := grown_cell w g k (.int .i64 x)
  have hn := h.ns _ rfl
  have hB := (hr.lt g rfl).1
  refine ⟨⟨h.qv.bel.grown hg h.qv.bel.size (fun j hj => by injection hj with e; omega), h.qv.wb, Nat.le_trans h.qv.bs hg.size, h.qv.qi.same fun j hj => hg.block j (h.qv.qi.hi j hj) (fun e => hn.1 (by injection e with e; rw [← e]; exact hj))⟩, ⟨ys.set k x, by simpa using hy, by rw [List.map_set]; exact hs.1⟩, ?_, h.ns⟩
  intro i hi
  obtain ⟨ad, h1, h2, h3⟩ := h.was i hi
  refine ⟨ad, h1, Nat.lt_of_lt_of_le h2 hg.size, (World.cell?_of_block (a := ad.add i) ?_).trans h3⟩
  rw [add_block']
  exact hg.block _ h2 (fun e => hn.2 ad h1 (by injection e))
theorem OwnR.start {W w w1 w2 : World} {q b n c c2 : Nat} {l : List Int} {S : Nat → Prop} {a aw : Option Addr} (h : QV W w q q b l S) (hn : l.length = n) (hr : w1.ownsRow w.heap.size 3 1 (.slice a n c) n (l.map (Value.int .i64))) (hb : Below w.heap.size w w1)
    (hr2 : w2.ownsRow w1.heap.size 3 1 (.slice aw n c2) n (l.map (Value.int .i64))) (hb2 : Below w1.heap.size w1 w2) : OwnR W w2 q b n c l S a aw := by
  have h1 := h.step hb
  refine ⟨h1.step hb2, ⟨l, hn, ?_⟩, own_ri hr2 hn, fun ad ha => ?_⟩
  · have := hr.kept ⟨hb2.os, hb2.tape, hb2.output, hb2.size, fun k hk _ => hb2.block k hk⟩ (row := none) (by cases a <;> simp [Value.ownBlock])
    refine ⟨this.1, ?_⟩
    rcases this.2 with h0 | ⟨g, cap, cur, hv, hB, rest⟩
    · exact .inl h0
    · exact .inr ⟨g, cap, cur, hv, Nat.le_trans h.bel.size hB, rest⟩
  · have ha1 := hr.lt ad.block (by rw [ha]; rfl)
    refine ⟨fun hs => by have := h.qi.hi _ hs; omega, fun bd hb' => ?_⟩
    have := hr2.lt bd.block (by rw [hb']; rfl)
    omega
theorem qdrop_no {W w : World} {base q b : Nat} {l : List Int} {S : Nat → Prop} (x : Int) (hx : wfI x) (hno : Hid (l.contains x = false)) (h : QV W w base q b l S) :
    Calls Try.prog 13 #[.pointer (some ⟨q, 0, none⟩), .int .i64 x] w fun e w' => e = .returned (.bool false) ∧ QV W w' base q b l S := by
  have H := Lib.hid h
  clear h
  go_enter Try.func13, Try.ntmps13
  go_wp2_with (first | (go_at_call 17; (with_reducible refine (qhas_v H.out x hx false hno).mono ?_); rintro e w2 ⟨rfl, h2⟩; have H2 := Lib.hid h2; clear h2))
  go_ret
  exact ⟨rfl, H2.out⟩
theorem qall_v {W w : World} {base q b n : Nat} {l : List Int} {S : Nat → Prop} (h : QV W w base q b l S) (hn : Hid (l.length = n)) (hm : n ≤ 1000000) :
    Calls Try.prog 15 #[.pointer (some ⟨q, 0, none⟩)] w fun e w' => ∃ a c, e = .returned (.slice a n c) ∧ w'.ownsRow w.heap.size 3 1 (.slice a n c) n (l.map (Value.int .i64)) ∧ Below w.heap.size w w' := qall_is hn hm w h.qi
theorem ints_sl (a : Option Addr) (c n : Nat) (xs : List Int) (hn : Hid (xs.length = n)) (hm : n ≤ 1000000) (w : World) (hx : RI w a xs) :
    Calls Try.prog 18 #[.slice a n c] w fun e w' => ∃ a' c', e = .returned (.slice a' n c') ∧ w'.ownsRow w.heap.size 3 1 (.slice a' n c') n (xs.map (Value.int .i64)) ∧ Below w.heap.size w w' := by
  refine (ints_is a c n xs hn hm w hx).mono fun e w' ⟨v, he, hr, hb⟩ => ?_
  rcases hr.2 with ⟨rfl, h0⟩ | ⟨g, cap, cur, rfl, _⟩
  · exact ⟨none, 0, by rw [he, h0], by rw [h0] at hr ⊢; exact hr, hb⟩
  · exact ⟨_, _, he, hr, hb⟩
set_option maxRecDepth 100000 in
theorem own_big (a : Option Addr) (len cap : Nat) (hl : 30 < len) (hm : len ≤ 9223372036854775807) (w : World) :
    Calls Try.prog 5 #[.slice a len cap] w fun e w' => e = .returned (.bool true) ∧ Below w.heap.size w w' := by
  have hd : decide ((30 : Int) < (len : Int)) = true := by simp; omega
  go_enter Try.func5, Try.ntmps5
  go_wp2_with (first
    | (go_at_call 8; refine (qfirst_is _).mono ?_; rintro e w1 ⟨rfl, hb1⟩; have HB1 := Lib.hid hb1; clear hb1))
  go_ret
  exact ⟨rfl, HB1.out⟩
set_option maxRecDepth 100000 in
set_option maxHeartbeats 4000000 in
theorem own_small (a : Option Addr) (len cap : Nat) (zs : List Int) (hz : Hid (zs.length = len)) (hl : len ≤ 30) (w : World) (hr : RI w a zs) (hv : ∀ x ∈ zs, wfI x) :
    Calls Try.prog 5 #[.slice a len cap] w fun e w' => e = .returned (.bool true) ∧ Below w.heap.size w w' := by
  have hd : decide ((30 : Int) < (len : Int)) = false := by simp; omega
  have HR := Lib.hid hr
  have HV := Lib.hid hv
  obtain ⟨l, HL⟩ : ∃ l, Hid (putAll [] zs = l) := ⟨_, Lib.hid rfl⟩
  obtain ⟨n, HN⟩ : ∃ n, Hid (l.length = n) := ⟨_, Lib.hid rfl⟩
  have hn30 : n ≤ 30 := by
    have := putAll_len [] zs
    rw [HL.out, HN.out, hz.out] at this
    simp at this
    omega
  clear hr hv
  go_enter Try.func5, Try.ntmps5
  go_wp2_with (first
    | (go_at_call 8; refine (qfirst_is _).mono ?_; rintro e w1 ⟨rfl, hb1⟩; have HQ0 := Lib.hid (QV.begun hb1); clear hb1)
    | (go_at_call 11; (with_reducible refine (qpick_none 3 _ HQ0.out.qi).mono ?_); rintro e w2 ⟨rfl, rfl⟩)
    | (go_at_call 16; (with_reducible refine (qlen_v HQ0.out 0 (Lib.hid rfl)).mono ?_); rintro e w3 ⟨rfl, rfl⟩)
    | (go_at_call 15; (with_reducible refine (qall_v HQ0.out (n := 0) (Lib.hid rfl) (by omega)).mono ?_); rintro e w4 ⟨a4, c4, rfl, _, hb⟩; have HQ4 := Lib.hid (HQ0.out.step hb); clear hb)
    | (go_at_call 13; (with_reducible refine (qdrop_no 0 (wfI.mk (by decide) (by decide)) (Lib.hid rfl) HQ4.out).mono ?_); rintro e w5 ⟨rfl, h5⟩; have HQ5 := Lib.hid h5; clear h5)
    | (go_at_call 10; (with_reducible refine (qput_is a len cap zs hz (by omega) (by simp) (by omega) _ (Lib.hid rfl) _ HQ5.out.qi (src_arg HQ5.out HR.out HV.out) HQ5.out.bs).mono ?_); rintro e w6 ⟨S6, rfl, h6, f6⟩; rw [HL.out] at h6; have HQ6 := Lib.hid (HQ5.out.turn h6 f6); clear h6 f6)
    | (go_at_call 15; (with_reducible refine (qall_v HQ6.out HN (by omega)).mono ?_); rintro e w7 ⟨a7, c7, rfl, hr7, hb7⟩; have HR7 := Lib.hid hr7; have HB7 := Lib.hid hb7; clear hr7 hb7)
    | (go_at_call 18; (with_reducible refine (ints_sl a7 c7 n l HN (by omega) _ (own_ri HR7.out HN.out)).mono ?_); rintro e w8 ⟨a8, c8, rfl, hr8, hb8⟩; have HO := Lib.hid (OwnR.start HQ6.out HN.out HR7.out HB7.out hr8 hb8); clear hr8 hb8))
  go_loopw [9] (fun i wr => ∃ k : Nat, k ≤ n ∧ i = .int .i64 k ∧ OwnR w wr w1.heap.size (0 + len) n c7 l S6 a7 a8) (fun i _ => n - (intOf i).toNat)
  case atStart => exact ⟨0, by omega, rfl, HO.out⟩
  case round =>
    obtain ⟨k, hk, rfl, hO⟩ := hrel
    have HO2 := Lib.hid hO
    by_cases hlt : k < n
    · obtain ⟨g, x, rfl, hc, hf⟩ := hO.at k hlt
      have k0 : (0 : Int) ≤ (k : Int) := by omega
      have k1 : (k : Int) < (n : Int) := by omega
      clear hO
      go_wp2_with fail
      go_roundw
      case rel => exact ⟨k + 1, by omega, by go_num, HO2.out.put k _⟩
      case measure => simp [intOf]; omega
    · obtain rfl : n = k := by omega
      have hdd : decide (n < n) = false := by simp
      clear hO
      go_wp2_with (first
        | (go_at_call 15; (with_reducible refine (qall_v HO2.out.qv HN (by omega)).mono ?_); rintro e w9 ⟨a9, c9, rfl, hr9, hb9⟩; have HR9 := Lib.hid hr9; have HB9 := Lib.hid hb9; clear hr9 hb9)
        | (go_at_call 14; (with_reducible refine (sameints_yes a9 a8 c9 c8 n l HN (by omega) _ (own_ri HR9.out HN.out) (HO2.out.was.below HB9.out)).mono ?_); rintro e w10 ⟨rfl, hb10⟩; have HB10 := Lib.hid (HO2.out.qv.bel.trans ((HB9.out.trans (hb10.mono HB9.out.size)).mono HO2.out.qv.bel.size)); clear hb10))
      go_ret
      exact ⟨rfl, HB10.out⟩
theorem walk_QueueOwn (a0 : Option Addr) (len0 cap0 : Nat) (z0 : List Int) (w : World) (w0 : IsRow .i64 w a0 len0 cap0 z0) :
    Calls Try.prog 5 #[.slice a0 len0 cap0] w fun e w' => e = .returned (.bool true) ∧ Below w.heap.size w w' := by
  obtain ⟨xs, h1, h2, h3, h4⟩ := ri_row w0
  by_cases hl : 30 < len0
  · exact own_big a0 len0 cap0 hl h4 w
  · exact own_small a0 len0 cap0 xs (Lib.hid h1) (by omega) w h2 h3
end Go.Proofs.Ytdfcpgbimihcoaa
