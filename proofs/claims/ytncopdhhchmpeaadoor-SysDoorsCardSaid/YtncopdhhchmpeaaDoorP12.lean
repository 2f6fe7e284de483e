/-
  Ds2, Ds3, Ds4, BkE, BkF, BkG, BkN, BkO, Dq, Yh as one.
-/
import Derived.Test.YtncopdhhchmpeaaDoorP10
import Derived.Maps.OwnSet
import Derived.ArgAppend
import Derived.Test.YtncopdhhchmpeaaDoorP9
import Derived.Test.YtncopdhhchmpeaaDoorP11
namespace Go.Proofs.YtncopdhhchmpeaaDoor
open Go.ChangeShapes Go.WideShapes Go.ChangeAt Go.RowKit Go.Maps
set_option linter.unusedVariables false
set_option linter.unusedSimpArgs false
theorem dlawI : Keyed Tryd.prog 3 := int_keyed Tryd.underlying3
theorem dzeroU (w : World) : (zeroValue 199).run Tryd.prog w = .ok (.agg #[]) w := by kernel_rfl
theorem dfit {x : Int} (h0 : 0 ≤ x) (h1 : x ≤ 1000) : (Lit.int .i64 x).wf = true := WalkArith.wf_i64 ⟨by omega, by omega⟩
theorem zqhas_n {q o : Nat} (x : Int) (h0 : 0 ≤ x) (h1 : x ≤ 1000) (w : World) (hc : w.cell? ⟨q, o + 1, none⟩ = some (.map none)) :
    Calls Tryd.prog 95 #[.pointer (some ⟨q, o, none⟩), .int .i64 x] w fun e w' => e = .returned (.bool false) ∧ Below w.heap.size w w' := by
  have hl := fun W : World => Maps.look_nil (w := W) true dlawI Tryd.underlying105 (dzeroU W) (keyOf_int_mk Tryd.underlying3 (dfit h0 h1))
  simp only [if_true] at hl
  go_enter Tryd.func95, Tryd.ntmps95
  go_wp2
  go_ret
  exact ⟨rfl, (Below.refl _ _).alloc (Nat.le_refl _) _⟩
theorem zqdrop_n {q o : Nat} (x : Int) (h0 : 0 ≤ x) (h1 : x ≤ 1000) (w : World) (hc : w.cell? ⟨q, o + 1, none⟩ = some (.map none)) :
    Calls Tryd.prog 91 #[.pointer (some ⟨q, o, none⟩), .int .i64 x] w fun e w' => e = .returned (.bool false) ∧ Below w.heap.size w w' := by
  have HC := Lib.hid (zqhas_n x h0 h1 w hc)
  clear hc
  go_enter Tryd.func91, Tryd.ntmps91
  go_wp2_with (first | (go_at_call 95; (with_reducible refine HC.out.mono ?_); rintro e w1 ⟨rfl, hb⟩; have HB := Lib.hid hb; clear hb))
  go_ret
  exact ⟨rfl, HB.out⟩
set_option maxRecDepth 100000 in
theorem dunstall_no {base P p B G Q n c : Nat} {th : Nat → Bool} {vr_ : Nat → Int} {W : Nat → Nat → Value} (x : Int) (h0 : 0 ≤ x) (h1 : x ≤ 1000) (w : World) (h : DsAt w base P p B G Q n c th vr_ W) :
    Calls Tryd.prog 85 #[.pointer (some ⟨P, 0, none⟩), .int .i64 x] w fun e w' => e = .returned (.tuple #[]) ∧ Below w.heap.size w w' := by
  have H := Lib.hid h
  have f2 := h.f2
  have hn := h.pl.ar.le
  clear h
  go_enter Tryd.func85, Tryd.ntmps85
  go_wp2_with fail
  clear f2
  go_loopw [10] (fun i wr => ∃ k : Nat, k ≤ n ∧ i = .int .i64 k ∧ Below w.heap.size w wr) (fun i _ => n - (intOf i).toNat)
  case atStart => exact ⟨0, by omega, rfl, Below.refl _ _⟩
  case round =>
    obtain ⟨k, hk, rfl, hB⟩ := hrel
    have HB := Lib.hid hB
    by_cases hlt : k < n
    · have HR := Lib.hid (H.out.below hB)
      have f2 := HR.out.f2
      have k0 : (0 : Int) ≤ k := by omega
      have k1 : (k : Int) < n := by omega
      clear hB
      go_wp2_with (first | (go_at_call 91; (with_reducible refine (zqdrop_n x h0 h1 _ (HR.out.queue k hlt).2).mono ?_); rintro e w1 ⟨rfl, hb⟩; have HB2 := Lib.hid (HB.out.trans (hb.mono HB.out.size)); clear hb f2))
      go_roundw
      case rel => exact ⟨k + 1, by omega, by go_num, HB2.out⟩
      case measure => simp [intOf]; omega
    · obtain rfl : k = n := by omega
      have hdd : decide (k < k) = false := by simp
      clear hB
      go_wp2_with fail
      go_end0
      exact ⟨rfl, HB.out⟩
set_option maxRecDepth 100000 in
theorem zclone_n (w : World) : Calls Tryd.prog 98 #[.slice none 0 0] w fun e w' => e = .returned (.slice none 0 0) ∧ Below w.heap.size w w' := by
  have hq : ∀ W : World, (binOp .eql 22 (.slice none 0 0) (.slice none 0 0)).run Tryd.prog W = .ok (.bool true) W := fun W => by kernel_rfl
  go_enter Tryd.func98, Tryd.ntmps98
  go_wp2_with fail
  go_ret
  exact ⟨rfl, Below.refl _ _⟩
theorem zall_n {q o : Nat} (w : World) (hc : w.cell? ⟨q, o, none⟩ = some (.slice none 0 0)) : Calls Tryd.prog 94 #[.pointer (some ⟨q, o, none⟩)] w fun e w' => e = .returned (.slice none 0 0) ∧ Below w.heap.size w w' := by
  go_enter Tryd.func94, Tryd.ntmps94
  go_wp2_with (first | (go_at_call 98; (with_reducible refine (zclone_n _).mono ?_); rintro e w1 ⟨rfl, hb⟩; have HB := Lib.hid hb; clear hb))
  go_ret
  exact ⟨rfl, HB.out⟩
theorem dcallers_no {base P p B G Q n c : Nat} {th : Nat → Bool} {vr_ : Nat → Int} {W : Nat → Nat → Value} (k : Nat) (hk : k < n) (ht : Hid (th k = true)) (w : World) (h : DsAt w base P p B G Q n c th vr_ W) :
    Calls Tryd.prog 90 #[.pointer (some ⟨P, 0, none⟩), .int .i64 (k : Int)] w fun e w' => e = .returned (.slice none 0 0) ∧ Below w.heap.size w w' := by
  have H := Lib.hid h
  have f0 := h.pl.f0
  have f2 := h.f2
  have k0 : (0 : Int) ≤ k := by omega
  have k1 : (k : Int) < n := by omega
  clear h
  go_enter Tryd.func90, Tryd.ntmps90
  go_wp2_with (first
    | (go_at_call 32; (with_reducible refine (athere_in k hk true ht _ H.out.pl.ar).mono ?_); rintro e w1 ⟨rfl, rfl⟩)
    | (go_at_call 94; (with_reducible refine (zall_n _ (H.out.queue k hk).1).mono ?_); rintro e w1 ⟨rfl, hb⟩; have HB := Lib.hid hb; clear hb))
  go_ret
  exact ⟨rfl, HB.out⟩
theorem dwake_no {base P p B G Q n c : Nat} {th : Nat → Bool} {vr_ : Nat → Int} {W : Nat → Nat → Value} (k : Nat) (hk : k < n) (ht : Hid (th k = true)) (w : World) (h : DsAt w base P p B G Q n c th vr_ W) :
    Calls Tryd.prog 84 #[.pointer (some ⟨P, 0, none⟩), .int .i64 (k : Int)] w fun e w' => e = .returned (.slice none 0 0) ∧ Below w.heap.size w w' := by
  have HC := Lib.hid (dcallers_no k hk ht w h)
  clear h
  go_enter Tryd.func84, Tryd.ntmps84
  go_wp2_with (first
    | (go_at_call 90; (with_reducible refine HC.out.mono ?_); rintro e w1 ⟨rfl, hb⟩; have HB := Lib.hid hb; clear hb))
  go_ret
  exact ⟨rfl, HB.out⟩
set_option maxRecDepth 100000 in
theorem dend_ok {base P p B G Q n c : Nat} {th : Nat → Bool} {vr_ : Nat → Int} {W : Nat → Nat → Value} (k : Nat) (hk : k < n) (ht : Hid (th k = true)) (v : Int) (hv : Hid (vr_ k = v)) (v0 : -1000000000 ≤ v) (v1 : v ≤ 1000000000) (w : World) (h : DsAt w base P p B G Q n c th vr_ W) :
    Calls Tryd.prog 65 #[.pointer (some ⟨P, 0, none⟩), .int .i64 (k : Int)] w fun e w' => e = .returned .nilIface ∧ DsAt w' base P p B G Q n c (upd th k false) (upd vr_ k (v + 1)) W ∧ PBelow w w' B G := by
  have H := Lib.hid h
  have f0 := h.pl.f0
  have hn := h.pl.ar.le
  clear h
  go_enter Tryd.func65, Tryd.ntmps65
  go_wp2_with (first
    | (go_at_call 32; (with_reducible refine (athere_in k hk true ht _ H.out.pl.ar).mono ?_); rintro e w1 ⟨rfl, rfl⟩)
    | (go_at_call 84; (with_reducible refine (dwake_no k hk ht _ H.out).mono ?_); rintro e w1 ⟨rfl, hb⟩; have HB1 := Lib.hid hb; have H1 := Lib.hid (H.out.below hb); clear hb f0)
    | (go_at_call 85; (with_reducible refine (dunstall_no (k : Int) (by omega) (by omega) _ H1.out).mono ?_); rintro e w2 ⟨rfl, hb⟩; have HB2 := Lib.hid (HB1.out.trans (hb.mono HB1.out.size)); have H2 := Lib.hid (H1.out.below hb); have f9 := H2.out.pl.f0; clear hb)
    | (go_at_call 83; (with_reducible refine (agive_ok _ H2.out.pl.ar k hk ht v hv v0 v1).mono ?_); rintro e w3 ⟨rfl, hA, hg⟩; have H3 := Lib.hid (H2.out.turn hA hg); have HB3 := Lib.hid ((PBelow.of_below (B := B) (G := G) HB2.out).trans (PBelow.of hg (.inl rfl))); clear hA hg f9))
  go_ret
  exact ⟨rfl, H3.out, HB3.out⟩
theorem infoDomS : (Tryd.prog.info? 85).map (·.size) = some 107 := by kernel_rfl
set_option maxRecDepth 100000 in
set_option maxHeartbeats 1000000 in
theorem dmake_ok {base P p B G Q n c : Nat} {th : Nat → Bool} {vr_ : Nat → Int} {W : Nat → Nat → Value} (j : Nat) (hj : j < n) (hyes : Hid (freeB th vr_ j = true)) (hno : Hid (∀ i, i < j → freeB th vr_ i = false)) (v : Int) (hv : Hid (vr_ j = v)) (w : World) (h : DsAt w base P p B G Q n c th vr_ W) :
    Calls Tryd.prog 31 #[.pointer (some ⟨P, 0, none⟩)] w fun e w' => e = .returned (.tuple #[.int .i64 j, .int .i64 v, .nilIface]) ∧ DsAt w' base P p B G Q n c (upd th j true) vr_ (updS W j 0 zsD1) ∧ PBelow w w' B G := by
  have H := Lib.hid h
  have f0 := h.pl.f0
  have hn := h.pl.ar.le
  have k0 : (0 : Int) ≤ j := by omega
  have k1 : (j : Int) < n := by omega
  clear h
  go_enter Tryd.func31, Tryd.ntmps31
  go_upto_region 4 with (first
    | (go_at_call 57; (with_reducible refine (atake_ok _ H.out.pl.ar j hj hyes hno v hv).mono ?_); rintro e w1 ⟨rfl, hA, hg⟩; have H1 := Lib.hid (H.out.turn hA hg); have HB1 := Lib.hid (PBelow.of (G := G) hg (.inl rfl)); have f1 := H1.out.pl.f1; have HTh : Hid (w1.there G (j * 107) 107) := Lib.hid (H1.out.pl.there j 0 107 hj (by decide)); clear hA hg f0))
  go_wp2_with (refine wpList_store_mid (by rfl) _ _ _ (by rfl) G (j * 107) zsD1.toArray (by kernel_rfl) (by rfl) HTh.out (by rw [List.size_toArray, zsD1_len]; exact infoDomS) (all_oneCell_toArray zsD1_one) ?_; obtain ⟨w2, hw2⟩ : ∃ w2, w2 = w1.setCells G (j * 107) zsD1.toArray.toList := ⟨_, rfl⟩; rw [← hw2]; have H2 := Lib.hid (H1.out.cells j 0 hj zsD1 (by rw [zsD1_len]; decide)); rw [Nat.add_zero, show zsD1 = zsD1.toArray.toList from rfl, ← hw2] at H2; clear hw2)
  go_ret3
  exact ⟨rfl, H2.out.1, HB1.out.trans (PBelow.of H2.out.2 (.inr rfl))⟩
end Go.Proofs.YtncopdhhchmpeaaDoor
namespace Go.Proofs.YtncopdhhchmpeaaDoor
open Go.ChangeShapes Go.WideShapes Go.ChangeAt Go.RowKit
set_option linter.unusedVariables false
set_option linter.unusedSimpArgs false
/-- A domain's cells in a row. -/
def rowL (f : Nat → Value) : List Value := (List.range 107).map f
theorem rowL_len (f : Nat → Value) : (rowL f).length = 107 := by simp [rowL]
theorem rowL_size (f : Nat → Value) : (rowL f).toArray.size = 107 := by simp [rowL]
theorem rowL_at (f : Nat → Value) (j : Nat) (hj : j < 107) : (rowL f)[j]? = some (f j) := by simp [rowL, hj]
theorem rowL_src (f : Nat → Value) (j : Nat) (v : Value) (h : (rowL f)[j]? = some v) : j < 107 ∧ v = f j := by
  have hl : j < 107 := by
    have := (List.getElem?_eq_some_iff.1 h).1
    rwa [rowL_len] at this
  rw [rowL_at f j hl] at h
  exact ⟨hl, (Option.some.inj h).symm⟩
theorem rowL_one (f : Nat → Value) (h : ∀ j, j < 107 → (f j).oneCell' = true) : (rowL f).toArray.all (·.oneCell') = true := all_oneCell_toArray (fun v hv => by
  obtain ⟨j, hj, rfl⟩ := List.mem_map.1 hv
  exact h j (by simpa using hj))
theorem dthere_new (w : World) (z : Array Value) (n : Nat) (hz : z.size = n) (T : TypeId) : World.there (w.alloc (.cells z T (0, 0))) w.heap.size 0 n := fun j hj => by
  simp [hz, hj]
theorem dbelow_cells {N b : Nat} {W0 w : World} (h : Below N W0 w) (hb : N ≤ b) : ∀ (cs : List Value) (o : Nat), Below N W0 (w.setCells b o cs) := by
  intro cs
  induction cs generalizing w with
  | nil => intro o; exact h
  | cons u r ih => intro o; exact ih (h.setCell hb u) (o + 1)
theorem dload {W : World} {b : Nat} {f : Nat → Value} (hr : W.rangeAt b 0 (rowL f)) : (loadVar 85 ⟨b, 0, none⟩).run Tryd.prog W = .ok (.agg (rowL f).toArray) W :=
  run_loadVar_mid (P := Tryd.prog) W b 0 85 (rowL f) _ hr Tryd.underlying85 rfl (by rw [rowL_len]; exact infoDomS)
set_option maxRecDepth 100000 in
set_option maxHeartbeats 1000000 in
theorem dget_ok {base P p B G Q n c : Nat} {th : Nat → Bool} {vr_ : Nat → Int} {W : Nat → Nat → Value} (x : Int) (k : Nat) (hx : Hid (x = (k : Int))) (hk : k < n) (ht : Hid (th k = true)) (f : Nat → Value) (hf : Hid (∀ j, j < 107 → W k j = f j)) (ho : Hid (∀ j, j < 107 → (f j).oneCell' = true)) (w : World) (h : DsAt w base P p B G Q n c th vr_ W) :
    Calls Tryd.prog 13 #[.pointer (some ⟨P, 0, none⟩), .int .i64 x] w fun e w' => e = .returned (.tuple #[.agg (rowL f).toArray, .bool true]) ∧ Below w.heap.size w w' := by
  rw [hx.out]
  have H := Lib.hid h
  have k0 : (0 : Int) ≤ k := by omega
  have k1 : (k : Int) < n := by omega
  clear h hx
  go_enter Tryd.func13, Tryd.ntmps13
  go_upto_region 1 with fail
  generalize hA : World.alloc w _ = wA
  have HA : Hid (Below w.heap.size w wA ∧ World.there wA w.heap.size 0 107) := Lib.hid (by rw [← hA]; exact ⟨(Below.refl _ _).alloc (Nat.le_refl _) _, dthere_new _ _ _ (by rfl) _⟩)
  clear hA
  have H1 := Lib.hid (H.out.below HA.out.1)
  have f0 := H1.out.pl.f0
  have f1 := H1.out.pl.f1
  have HRg : Hid (wA.rangeAt G (k * 107) (rowL f)) := Lib.hid (fun j v hv => by
    obtain ⟨hj, rfl⟩ := rowL_src f j v hv
    rw [H1.out.pl.cell k j hk hj, hf.out j hj])
  go_upto_region 3 with (first
    | (go_at_call 32; (with_reducible refine (athere_in k hk true ht _ H1.out.pl.ar).mono ?_); rintro e w1 ⟨rfl, rfl⟩))
  go_wp2_with (first
    | (refine wpList_load_mid (by rfl) _ _ (by rfl) G (k * 107) (by rfl) (rowL f) _ HRg.out Tryd.underlying85 rfl (by rw [rowL_len]; exact infoDomS) ?_)
    | (refine wpList_store_mid (by rfl) _ _ _ (by rfl) w.heap.size 0 (rowL f).toArray (by rfl) (by rfl) HA.out.2 (by rw [rowL_size]; exact infoDomS) (rowL_one f ho.out) ?_))
  have hr : (wA.setCells w.heap.size 0 (rowL f).toArray.toList).rangeAt w.heap.size 0 (rowL f) := World.rangeAt_setCells_same wA w.heap.size 0 (rowL f) (by rw [rowL_len]; exact HA.out.2)
  have hld := dload hr
  refine bodyPost_ret (v := .tuple #[.agg (rowL f).toArray, .bool true]) (by simp [results, Tryd.results13, asAddr, hld]) rfl ⟨rfl, dbelow_cells HA.out.1 (Nat.le_refl _) _ _⟩
section
variable {P : Program}
theorem op_append_run {o : Oper} {a : Act} {K : Act → World → Prop} {Q : Exit → Act → World → Prop} (w : World) (s x : Operand) (t : TypeId) (ho : o.op = .call { callee := .builtin .append, args := #[s, x], argTypes := #[t, t] }) (v1 v2 : Value) (hs : a.eval s = v1) (hx : a.eval x = v2) (v' : Value) (w' : World) (hr : (Builtin.append_ #[t, t] o.type #[v1, v2]).run P w = .ok v' w') (h : K (a.put o.dst v') w') : Oper.wp P o a w K Q := by
  unfold Oper.wp execOp
  simp only [ho, resolve, invoke, builtin, Sem.run_bind, Sem.run_pure, Result.andThen_ok, List.map_toArray, List.map_cons, List.map_nil, hs, hx, hr]
  exact h
end
theorem infoKeyS : (Tryd.prog.info? 82).map (fun i => (i.zero, i.size, i.bytes)) = some (some (.agg #[.int .i64 0, .int .i64 0, .int .i64 0, .int .i64 0, .int .u32 0]), 5, 40) := by kernel_rfl
theorem kcs19 (kk : Nat → Nat → Int) : kcs kk 19 = kcs kk 16 ++ ([.int .i64 (kk 16 0), .int .i64 (kk 16 1), .int .i64 (kk 16 2), .int .i64 (kk 16 3), .int .u32 (kk 16 4), .int .i64 (kk 17 0), .int .i64 (kk 17 1), .int .i64 (kk 17 2), .int .i64 (kk 17 3), .int .u32 (kk 17 4), .int .i64 (kk 18 0), .int .i64 (kk 18 1), .int .i64 (kk 18 2), .int .i64 (kk 18 3), .int .u32 (kk 18 4)] : List Value) := by
  apply List.ext_getElem?
  intro j
  by_cases h : j < 80
  · rw [List.getElem?_append_left (by rw [kcs_len]; exact h)]
    simp [kcs, h, show j < 95 by omega]
  · rw [List.getElem?_append_right (by rw [kcs_len]; omega), kcs_len]
    by_cases h2 : j < 95
    · obtain ⟨i, rfl⟩ : ∃ i, j = 80 + i := ⟨j - 80, by omega⟩
      have hi : i < 15 := by omega
      have e1 : (80 + i) / 5 = 16 + i / 5 := by omega
      have e2 : (80 + i) % 5 = i % 5 := by omega
      simp only [kcs, List.getElem?_map, List.getElem?_range (show 80 + i < 19 * 5 by omega), Option.map_some, e1, e2]
      rw [show 80 + i - 16 * 5 = i by omega]
      rcases (show i = 0 ∨ i = 1 ∨ i = 2 ∨ i = 3 ∨ i = 4 ∨ i = 5 ∨ i = 6 ∨ i = 7 ∨ i = 8 ∨ i = 9 ∨ i = 10 ∨ i = 11 ∨ i = 12 ∨ i = 13 ∨ i = 14 by omega) with rfl | rfl | rfl | rfl | rfl | rfl | rfl | rfl | rfl | rfl | rfl | rfl | rfl | rfl | rfl <;> rfl
    · rw [List.getElem?_eq_none (by rw [kcs_len]; omega), List.getElem?_eq_none (by simp; omega)]
/-- Keys among a domain's cells. -/
def KeysIn (f : Nat → Value) (kk : Nat → Nat → Int) : Prop := ∀ q r, q < 19 → r < 5 → f (11 + (q * 5 + r)) = kval r (kk q r)
set_option maxRecDepth 100000 in
set_option maxHeartbeats 4000000 in
theorem dvalid_ok (f : Nat → Value) (kk : Nat → Nat → Int) (hKy : Hid (KeysIn f kk)) (hR : Hid (∀ q, q < 19 → KRight kk q)) (s ft wt : Int) (hs : Hid (f 9 = .int .i64 s ∧ f 10 = .int .i64 ft ∧ f 106 = .int .i64 wt)) (s1 : 1 ≤ s) (s2 : s ≤ 4) (t1 : 0 ≤ ft) (t2 : ft ≤ 6) (u1 : 0 ≤ wt) (u2 : wt ≤ 536870911) (vs vr : Value) (w : World) (hE : ErrsAt vs vr w) :
    Calls Tryd.prog 33 #[.agg (rowL f).toArray] w fun e w' => e = .returned .nilIface ∧ Below w.heap.size w w' := by
  obtain ⟨i0, hi, hz0, hz1, hz2⟩ := info_parts infoKeyS
  have HI := Lib.hid (⟨hi, hz0, hz1, hz2⟩ : Tryd.prog.info? 82 = some i0 ∧ i0.zero = some (.agg #[.int .i64 0, .int .i64 0, .int .i64 0, .int .i64 0, .int .u32 0]) ∧ i0.size = 5 ∧ i0.bytes = 40)
  clear hi hz0 hz1 hz2
  have HE := Lib.hid hE
  clear hE
  go_enter Tryd.func33, Tryd.ntmps33
  go_upto_region 1 with fail
  generalize hA : World.alloc w _ = wA
  obtain ⟨xb, hxb⟩ : ∃ xb, xb = w.heap.size := ⟨_, rfl⟩
  have HA : Hid (Below w.heap.size w wA ∧ (∀ j, j < 107 → wA.cell? ⟨xb, j, none⟩ = some (f j)) ∧ xb < wA.heap.size) := Lib.hid (by
    rw [← hA, hxb]
    refine ⟨(Below.refl _ _).alloc (Nat.le_refl _) _, fun j hj => ?_, by simp⟩
    have e := rowL_at f j hj
    simp [e])
  rw [← hxb]
  clear hA hxb
  have c9 := HA.out.2.1 9 (by decide)
  have c10 := HA.out.2.1 10 (by decide)
  have c106 := HA.out.2.1 106 (by decide)
  rw [hs.out.1] at c9
  rw [hs.out.2.1] at c10
  rw [hs.out.2.2] at c106
  have d1 : decide (s < 1) = false := decide_eq_false (by omega)
  have d2 : decide (4 < s) = false := decide_eq_false (by omega)
  have d3 : decide (ft < 0) = false := decide_eq_false (by omega)
  have d4 : decide (6 < ft) = false := decide_eq_false (by omega)
  have d5 : decide (wt < 0) = false := decide_eq_false (by omega)
  have d6 : decide (536870911 < wt) = false := decide_eq_false (by omega)
  have HKc : Hid (∀ W, Below wA.heap.size wA W → ∀ q r, q < 19 → r < 5 → W.cell? ⟨xb, 11 + (q * 5 + r), none⟩ = some (kval r (kk q r))) := Lib.hid (fun W hb q r hq hr => by
    rw [hb.cell (p := ⟨xb, 11 + (q * 5 + r), none⟩) HA.out.2.2, HA.out.2.1 _ (by omega), hKy.out q r hq hr])
  have HS15 : Hid (∀ W, Below wA.heap.size wA W → (World.cell? W ⟨xb, 91, none⟩ = some (.int .i64 (kk 16 0)) ∧ World.cell? W ⟨xb, 92, none⟩ = some (.int .i64 (kk 16 1)) ∧ World.cell? W ⟨xb, 93, none⟩ = some (.int .i64 (kk 16 2)) ∧ World.cell? W ⟨xb, 94, none⟩ = some (.int .i64 (kk 16 3)) ∧ World.cell? W ⟨xb, 95, none⟩ = some (.int .u32 (kk 16 4)) ∧ World.cell? W ⟨xb, 96, none⟩ = some (.int .i64 (kk 17 0)) ∧ World.cell? W ⟨xb, 97, none⟩ = some (.int .i64 (kk 17 1)) ∧ World.cell? W ⟨xb, 98, none⟩ = some (.int .i64 (kk 17 2)) ∧ World.cell? W ⟨xb, 99, none⟩ = some (.int .i64 (kk 17 3)) ∧ World.cell? W ⟨xb, 100, none⟩ = some (.int .u32 (kk 17 4)) ∧ World.cell? W ⟨xb, 101, none⟩ = some (.int .i64 (kk 18 0)) ∧ World.cell? W ⟨xb, 102, none⟩ = some (.int .i64 (kk 18 1)) ∧ World.cell? W ⟨xb, 103, none⟩ = some (.int .i64 (kk 18 2)) ∧ World.cell? W ⟨xb, 104, none⟩ = some (.int .i64 (kk 18 3)) ∧ World.cell? W ⟨xb, 105, none⟩ = some (.int .u32 (kk 18 4)))) := Lib.hid (fun W hb => by
    have h := HKc.out W hb
    exact ⟨h 16 0 (by decide) (by decide), h 16 1 (by decide) (by decide), h 16 2 (by decide) (by decide), h 16 3 (by decide) (by decide), h 16 4 (by decide) (by decide), h 17 0 (by decide) (by decide), h 17 1 (by decide) (by decide), h 17 2 (by decide) (by decide), h 17 3 (by decide) (by decide), h 17 4 (by decide) (by decide), h 18 0 (by decide) (by decide), h 18 1 (by decide) (by decide), h 18 2 (by decide) (by decide), h 18 3 (by decide) (by decide), h 18 4 (by decide) (by decide)⟩)
  go_upto_region 3 with fail
  clear c9 c10 c106 d1 d2 d3 d4 d5 d6
  obtain ⟨wD, hwD⟩ : ∃ wD, wD = wA.drew := ⟨_, rfl⟩
  have HBD : Hid (Below wA.heap.size wA wD) := Lib.hid (by rw [hwD]; exact (Below.refl _ _).drew)
  refine wp_region_noPanic ?_
  refine wp_region_held_drew (S := fun w' => (World.cell? w' ⟨xb, 91, none⟩ = some (.int .i64 (kk 16 0)) ∧ World.cell? w' ⟨xb, 92, none⟩ = some (.int .i64 (kk 16 1)) ∧ World.cell? w' ⟨xb, 93, none⟩ = some (.int .i64 (kk 16 2)) ∧ World.cell? w' ⟨xb, 94, none⟩ = some (.int .i64 (kk 16 3)) ∧ World.cell? w' ⟨xb, 95, none⟩ = some (.int .u32 (kk 16 4)) ∧ World.cell? w' ⟨xb, 96, none⟩ = some (.int .i64 (kk 17 0)) ∧ World.cell? w' ⟨xb, 97, none⟩ = some (.int .i64 (kk 17 1)) ∧ World.cell? w' ⟨xb, 98, none⟩ = some (.int .i64 (kk 17 2)) ∧ World.cell? w' ⟨xb, 99, none⟩ = some (.int .i64 (kk 17 3)) ∧ World.cell? w' ⟨xb, 100, none⟩ = some (.int .u32 (kk 17 4)) ∧ World.cell? w' ⟨xb, 101, none⟩ = some (.int .i64 (kk 18 0)) ∧ World.cell? w' ⟨xb, 102, none⟩ = some (.int .i64 (kk 18 1)) ∧ World.cell? w' ⟨xb, 103, none⟩ = some (.int .i64 (kk 18 2)) ∧ World.cell? w' ⟨xb, 104, none⟩ = some (.int .i64 (kk 18 3)) ∧ World.cell? w' ⟨xb, 105, none⟩ = some (.int .u32 (kk 18 4)))) (by kernel_rfl) (by rw [← hwD]; exact HS15.out _ HBD.out) (fun hHeld => ?_)
  rw [← hwD] at hHeld ⊢
  clear hwD
  refine wpAnyH_take (i := 0) (v := ?_) (by rfl) (by kernel_rfl) (by kernel_rfl) (by kernel_rfl) (fun _ _ _ h => h) (Or.inl ⟨by kernel_rfl, ?_⟩) (by assumption) ?_; rotate_left 1; (focus (intro w hSw; (try dsimp only at hSw); simp only [List.getElem_toArray, List.getElem_cons_succ, List.getElem_cons_zero]; all_goals go_simp; all_goals (try with_reducible rfl))); (try simp only [Act.put, List.getElem_toArray, List.getElem_cons_succ, List.getElem_cons_zero, List.setIfInBounds_toArray, List.set_cons_zero, List.set_cons_succ])
  refine wpAnyH_take (i := 1) (v := ?_) (by rfl) (by kernel_rfl) (by kernel_rfl) (by kernel_rfl) (fun _ _ _ h => h) (Or.inl ⟨by kernel_rfl, ?_⟩) (by assumption) ?_; rotate_left 1; (focus (intro w hSw; (try dsimp only at hSw); simp only [List.getElem_toArray, List.getElem_cons_succ, List.getElem_cons_zero]; all_goals go_simp; all_goals (try with_reducible rfl))); (try simp only [Act.put, List.getElem_toArray, List.getElem_cons_succ, List.getElem_cons_zero, List.setIfInBounds_toArray, List.set_cons_zero, List.set_cons_succ])
  refine wpAnyH_take (i := 2) (v := ?_) (by rfl) (by kernel_rfl) (by kernel_rfl) (by kernel_rfl) (fun _ _ _ h => h) (Or.inl ⟨by kernel_rfl, ?_⟩) (by assumption) ?_; rotate_left 1; (focus (intro w hSw; (try dsimp only at hSw); simp only [List.getElem_toArray, List.getElem_cons_succ, List.getElem_cons_zero]; all_goals go_simp; all_goals (try with_reducible rfl))); (try simp only [Act.put, List.getElem_toArray, List.getElem_cons_succ, List.getElem_cons_zero, List.setIfInBounds_toArray, List.set_cons_zero, List.set_cons_succ])
  refine wpAnyH_take (i := 3) (v := ?_) (by rfl) (by kernel_rfl) (by kernel_rfl) (by kernel_rfl) (fun _ _ _ h => h) (Or.inl ⟨by kernel_rfl, ?_⟩) (by assumption) ?_; rotate_left 1; (focus (intro w hSw; (try dsimp only at hSw); simp only [List.getElem_toArray, List.getElem_cons_succ, List.getElem_cons_zero]; all_goals go_simp; all_goals (try with_reducible rfl))); (try simp only [Act.put, List.getElem_toArray, List.getElem_cons_succ, List.getElem_cons_zero, List.setIfInBounds_toArray, List.set_cons_zero, List.set_cons_succ])
  refine wpAnyH_take (i := 4) (v := ?_) (by rfl) (by kernel_rfl) (by kernel_rfl) (by kernel_rfl) (fun _ _ _ h => h) (Or.inl ⟨by kernel_rfl, ?_⟩) (by assumption) ?_; rotate_left 1; (focus (intro w hSw; (try dsimp only at hSw); simp only [List.getElem_toArray, List.getElem_cons_succ, List.getElem_cons_zero]; all_goals go_simp; all_goals (try with_reducible rfl))); (try simp only [Act.put, List.getElem_toArray, List.getElem_cons_succ, List.getElem_cons_zero, List.setIfInBounds_toArray, List.set_cons_zero, List.set_cons_succ])
  refine wpAnyH_take (i := 5) (v := ?_) (by rfl) (by kernel_rfl) (by kernel_rfl) (by kernel_rfl) (fun _ _ _ h => h) (Or.inl ⟨by kernel_rfl, ?_⟩) (by assumption) ?_; rotate_left 1; (focus (intro w hSw; (try dsimp only at hSw); simp only [List.getElem_toArray, List.getElem_cons_succ, List.getElem_cons_zero]; all_goals go_simp; all_goals (try with_reducible rfl))); (try simp only [Act.put, List.getElem_toArray, List.getElem_cons_succ, List.getElem_cons_zero, List.setIfInBounds_toArray, List.set_cons_zero, List.set_cons_succ])
  refine wpAnyH_take (i := 6) (v := ?_) (by rfl) (by kernel_rfl) (by kernel_rfl) (by kernel_rfl) (fun _ _ _ h => h) (Or.inl ⟨by kernel_rfl, ?_⟩) (by assumption) ?_; rotate_left 1; (focus (intro w hSw; (try dsimp only at hSw); simp only [List.getElem_toArray, List.getElem_cons_succ, List.getElem_cons_zero]; all_goals go_simp; all_goals (try with_reducible rfl))); (try simp only [Act.put, List.getElem_toArray, List.getElem_cons_succ, List.getElem_cons_zero, List.setIfInBounds_toArray, List.set_cons_zero, List.set_cons_succ])
  refine wpAnyH_take (i := 7) (v := ?_) (by rfl) (by kernel_rfl) (by kernel_rfl) (by kernel_rfl) (fun _ _ _ h => h) (Or.inl ⟨by kernel_rfl, ?_⟩) (by assumption) ?_; rotate_left 1; (focus (intro w hSw; (try dsimp only at hSw); simp only [List.getElem_toArray, List.getElem_cons_succ, List.getElem_cons_zero]; all_goals go_simp; all_goals (try with_reducible rfl))); (try simp only [Act.put, List.getElem_toArray, List.getElem_cons_succ, List.getElem_cons_zero, List.setIfInBounds_toArray, List.set_cons_zero, List.set_cons_succ])
  refine wpAnyH_take (i := 11) (v := ?_) (by rfl) (by kernel_rfl) (by kernel_rfl) (by kernel_rfl) (fun _ _ _ h => h) (Or.inl ⟨by kernel_rfl, ?_⟩) (by assumption) ?_; rotate_left 1; (focus (intro w hSw; (try dsimp only at hSw); simp only [List.getElem_toArray, List.getElem_cons_succ, List.getElem_cons_zero]; all_goals go_simp; all_goals (try with_reducible rfl))); (try simp only [Act.put, List.getElem_toArray, List.getElem_cons_succ, List.getElem_cons_zero, List.setIfInBounds_toArray, List.set_cons_zero, List.set_cons_succ])
  refine wpAnyH_ready (rs := [8]) (by kernel_rfl) (by simp) ?_; refine AllReadyH.cons (by rfl) (fun K hK => ?_) AllReadyH.nil; rw [if_pos (by kernel_rfl)]; simp only [List.getElem_toArray, List.getElem_cons_succ, List.getElem_cons_zero]
  go_wp2_with fail
  generalize hB : World.alloc wD _ = wB
  obtain ⟨nbk, hnb⟩ : ∃ nbk, nbk = wD.heap.size := ⟨_, rfl⟩
  have HB : Hid (Below wA.heap.size wA wB ∧ (∀ j v, ([.int .i64 (kk 16 0), .int .i64 (kk 16 1), .int .i64 (kk 16 2), .int .i64 (kk 16 3), .int .u32 (kk 16 4), .int .i64 (kk 17 0), .int .i64 (kk 17 1), .int .i64 (kk 17 2), .int .i64 (kk 17 3), .int .u32 (kk 17 4), .int .i64 (kk 18 0), .int .i64 (kk 18 1), .int .i64 (kk 18 2), .int .i64 (kk 18 3), .int .u32 (kk 18 4)] : List Value)[j]? = some v → wB.cell? ⟨nbk, j, none⟩ = some v)) := Lib.hid (by
    rw [← hB, hnb]
    refine ⟨HBD.out.alloc HBD.out.size _, fun j v hj => ?_⟩
    simp
    exact hj)
  rw [← hnb]
  clear hB hnb
  refine hK.out _ _ (HS15.out _ HB.out.1) (fun hHeld => ?_)
  clear hK K
  (try simp only [Act.put, List.getElem_toArray, List.getElem_cons_succ, List.getElem_cons_zero, List.setIfInBounds_toArray, List.set_cons_zero, List.set_cons_succ])
  refine wpAnyH_ready (rs := [9]) (by kernel_rfl) (by simp) ?_; refine AllReadyH.cons (by rfl) (fun K hK => ?_) AllReadyH.nil; rw [if_pos (by kernel_rfl)]; simp only [List.getElem_toArray, List.getElem_cons_succ, List.getElem_cons_zero]
  have hadd : ∀ j, Addr.add ⟨xb, 11, none⟩ j = ⟨xb, 11 + j, none⟩ := fun j => by
    unfold Addr.add
    split
    · rename_i h; simp [h]
    · rfl
  have hadn : ∀ j, Addr.add ⟨nbk, 0, none⟩ j = ⟨nbk, j, none⟩ := fun j => by (simp [Addr.add]; exact fun h => h.symm)
  obtain ⟨v', wC, hrun, hown, hgrow⟩ := run_append_arg_grows (P := Tryd.prog) (w := wB) 152 152 82 i0 (.agg #[.int .i64 0, .int .i64 0, .int .i64 0, .int .i64 0, .int .u32 0]) 5 40 Tryd.underlying152 HI.out.1 HI.out.2.1 HI.out.2.2.1 HI.out.2.2.2 rfl (by decide) ⟨xb, 11, none⟩ 16 16 (kcs kk 16) (by rw [kcs_len]) (fun j u hj => by
    have hl : j < 80 := by have := (List.getElem?_eq_some_iff.1 hj).1; rw [kcs_len] at this; exact this
    have e := HKc.out wB HB.out.1 (j / 5) (j % 5) (by omega) (by omega)
    rw [show j / 5 * 5 + j % 5 = j by omega] at e
    rw [hadd, e]
    simp only [kcs, List.getElem?_map, List.getElem?_range hl, Option.map_some] at hj
    exact hj) ⟨nbk, 0, none⟩ 3 3 ([.int .i64 (kk 16 0), .int .i64 (kk 16 1), .int .i64 (kk 16 2), .int .i64 (kk 16 3), .int .u32 (kk 16 4), .int .i64 (kk 17 0), .int .i64 (kk 17 1), .int .i64 (kk 17 2), .int .i64 (kk 17 3), .int .u32 (kk 17 4), .int .i64 (kk 18 0), .int .i64 (kk 18 1), .int .i64 (kk 18 2), .int .i64 (kk 18 3), .int .u32 (kk 18 4)] : List Value) (by rfl) (fun j u hj => by rw [hadn]; exact HB.out.2 j u hj) (by decide) (by decide) (by decide)
  rw [← kcs19] at hown
  have HBC : Hid (Below wA.heap.size wA wC) := Lib.hid (HB.out.1.grown hgrow HB.out.1.size (fun k hk => by cases hk))
  obtain ⟨g, c, hv⟩ : ∃ g c, v' = .slice (some ⟨g, 0, none⟩) 19 c := by
    rcases hown.2 with ⟨_, h0⟩ | ⟨g, cap, cur, hv, _⟩
    · omega
    · exact ⟨g, cap, hv⟩
  subst hv
  have HOw := Lib.hid hown
  clear hown hgrow hadd hadn
  refine op_append_run _ _ _ 152 (by rfl) (.slice (some ⟨xb, 11, none⟩) 16 16) (.slice (some ⟨nbk, 0, none⟩) 3 3) (by rfl) (by rfl) _ _ hrun ?_
  clear hrun
  refine hK.out _ _ (HS15.out _ HBC.out) (fun hHeld => ?_)
  clear hK K
  (try simp only [Act.put, List.getElem_toArray, List.getElem_cons_succ, List.getElem_cons_zero, List.setIfInBounds_toArray, List.set_cons_zero, List.set_cons_succ])
  refine wpAnyH_take (i := 10) (v := ?_) (by rfl) (by kernel_rfl) (by kernel_rfl) (by kernel_rfl) (fun _ _ _ h => h) (Or.inl ⟨by kernel_rfl, ?_⟩) (by assumption) ?_; rotate_left 1; (focus (intro w hSw; (try dsimp only at hSw); simp only [List.getElem_toArray, List.getElem_cons_succ, List.getElem_cons_zero]; all_goals go_simp; all_goals (try with_reducible rfl))); (try simp only [Act.put, List.getElem_toArray, List.getElem_cons_succ, List.getElem_cons_zero, List.setIfInBounds_toArray, List.set_cons_zero, List.set_cons_succ])
  clear hHeld
  refine wpAnyH_done (by kernel_rfl) ?_ _
  refine NoPanic.normal ?_
  go_wp2_with fail
  go_loopw [50] (fun i wr => ∃ k : Nat, k ≤ 19 ∧ i = .int .i64 k ∧ Below wC.heap.size wC wr) (fun i _ => 19 - (intOf i).toNat)
  case atStart => exact ⟨0, by omega, rfl, Below.refl _ _⟩
  case round =>
    obtain ⟨k, hk, rfl, hb⟩ := hrel
    have HBr := Lib.hid hb
    clear hb
    by_cases hlt : k < 19
    · have hC : ∀ r, r < 5 → wr.cell? ⟨g, k * 5 + r, none⟩ = some (kval r (kk k r)) := fun r hr => by
        rw [HBr.out.cell (p := ⟨g, k * 5 + r, none⟩) (HOw.out.lt g rfl).2, HOw.out.cellAt (k * 5 + r) (by omega), kcs_at kk 19 k r hlt hr]
      have hr := hR.out k hlt
      unfold KRight at hr
      have p0 := hC 0 (by decide)
      have p1 := hC 1 (by decide)
      have p2 := hC 2 (by decide)
      have p3 := hC 3 (by decide)
      have p4 := hC 4 (by decide)
      rw [Nat.add_zero] at p0
      generalize kk k 0 = y0 at p0 hr
      generalize kk k 1 = y1 at p1 hr
      generalize kk k 2 = y2 at p2 hr
      generalize kk k 3 = y3 at p3 hr
      generalize kk k 4 = y4 at p4 hr
      have q0 : wr.cell? ⟨g, k * 5, none⟩ = some (.int .i64 y0) := p0
      have q1 : wr.cell? ⟨g, k * 5 + 1, none⟩ = some (.int .i64 y1) := p1
      have q2 : wr.cell? ⟨g, k * 5 + 2, none⟩ = some (.int .i64 y2) := p2
      have q3 : wr.cell? ⟨g, k * 5 + 3, none⟩ = some (.int .i64 y3) := p3
      have q4 : wr.cell? ⟨g, k * 5 + 4, none⟩ = some (.int .u32 y4) := p4
      have HR := Lib.hid hr
      have HE1 := Lib.hid ((((HE.out.below HA.out.1).below HBC.out).below HBr.out).below ((Below.refl _ _).alloc (Nat.le_refl _) _ : Below wr.heap.size wr (wr.alloc (.cells #[.int .i64 y0, .int .i64 y1, .int .i64 y2, .int .i64 y3, .int .u32 y4] 82 (0, 0)))))
      have k0 : (0 : Int) ≤ k := by omega
      have k1 : (k : Int) < 19 := by omega
      clear hr hC p0 p1 p2 p3 p4
      go_wp2_with (first
        | (go_at_call 61; (with_reducible refine (nvalid_ok y0 y1 y2 y3 y4 HR vs vr _ HE1.out).mono ?_); rintro e w1 ⟨rfl, hb⟩; have HB2 := Lib.hid ((HBr.out.alloc HBr.out.size _).trans (hb.mono (by simp; have := HBr.out.size; omega))); clear hb q0 q1 q2 q3 q4))
      go_roundw
      case rel => exact ⟨k + 1, by omega, by go_num, HB2.out⟩
      case measure => simp [intOf]; omega
    · have hdd : decide ((k : Int) < 19) = false := decide_eq_false (by omega)
      go_wp2_with fail
      go_ret
      exact ⟨rfl, HA.out.1.trans ((HBC.out.trans (HBr.out.mono HBC.out.size)).mono HA.out.1.size)⟩
end Go.Proofs.YtncopdhhchmpeaaDoor
namespace Go.Proofs.YtncopdhhchmpeaaDoor
open Go.ChangeShapes Go.WideShapes Go.ChangeAt Go.RowKit
set_option linter.unusedVariables false
set_option linter.unusedSimpArgs false
set_option maxRecDepth 100000 in
set_option maxHeartbeats 4000000 in
theorem dput_ok {base P p B G Q n c : Nat} {th : Nat → Bool} {vr_ : Nat → Int} {W : Nat → Nat → Value} (x : Int) (k : Nat) (hx : Hid (x = (k : Int))) (hk : k < n) (ht : Hid (th k = true)) (f : Nat → Value) (kk : Nat → Nat → Int) (ho : Hid (∀ j, j < 107 → (f j).oneCell' = true)) (hKy : Hid (KeysIn f kk)) (hR : Hid (∀ q, q < 19 → KRight kk q)) (s ft wt : Int) (hs : Hid (f 9 = .int .i64 s ∧ f 10 = .int .i64 ft ∧ f 106 = .int .i64 wt)) (s1 : 1 ≤ s) (s2 : s ≤ 4) (t1 : 0 ≤ ft) (t2 : ft ≤ 6) (u1 : 0 ≤ wt) (u2 : wt ≤ 536870911) (vs vr : Value) (w : World) (hE : ErrsAt vs vr w) (h : DsAt w base P p B G Q n c th vr_ W) :
    Calls Tryd.prog 15 #[.pointer (some ⟨P, 0, none⟩), .int .i64 x, .agg (rowL f).toArray] w fun e w' => e = .returned .nilIface ∧ DsAt w' base P p B G Q n c th vr_ (updS W k 0 (rowL f)) ∧ PBelow w w' B G := by
  rw [hx.out]
  have H := Lib.hid h
  have HE := Lib.hid hE
  have k0 : (0 : Int) ≤ k := by omega
  have k1 : (k : Int) < n := by omega
  clear h hx hE
  go_enter Tryd.func15, Tryd.ntmps15
  go_upto_region 1 with fail
  generalize hA : World.alloc w _ = wA
  obtain ⟨xb, hxb⟩ : ∃ xb, xb = w.heap.size := ⟨_, rfl⟩
  have HA : Hid (Below w.heap.size w wA ∧ wA.rangeAt xb 0 (rowL f) ∧ xb < wA.heap.size) := Lib.hid (by
    rw [← hA, hxb]
    refine ⟨(Below.refl _ _).alloc (Nat.le_refl _) _, fun j v hv => ?_, by simp⟩
    simp
    simpa using hv)
  rw [← hxb]
  have HXb := Lib.hid hxb
  clear hA hxb
  have H1 := Lib.hid (H.out.below HA.out.1)
  have f0 := H1.out.pl.f0
  have HE1 := Lib.hid (HE.out.below HA.out.1)
  go_upto_region 6 with (first
    | (go_at_call 32; (with_reducible refine (athere_in k hk true ht _ H1.out.pl.ar).mono ?_); rintro e w1 ⟨rfl, rfl⟩)
    | (refine wpList_load_mid (by rfl) _ _ (by rfl) xb 0 (by rfl) (rowL f) _ HA.out.2.1 Tryd.underlying85 rfl (by rw [rowL_len]; exact infoDomS) ?_)
    | (go_at_call 33; (with_reducible refine (dvalid_ok f kk hKy hR s ft wt hs s1 s2 t1 t2 u1 u2 vs vr _ HE1.out).mono ?_); rintro e w2 ⟨rfl, hb⟩; have HB2 := Lib.hid hb; clear hb f0))
  obtain ⟨wD, hwD⟩ : ∃ wD, wD = w2.drew := ⟨_, rfl⟩
  have HBD : Hid (Below wA.heap.size wA wD) := Lib.hid (by rw [hwD]; exact HB2.out.drew)
  have HD := Lib.hid (H1.out.below HBD.out)
  have HRg : Hid (wD.rangeAt xb 0 (rowL f)) := Lib.hid (fun j u hj => (HBD.out.cell (p := ⟨xb, 0 + j, none⟩) HA.out.2.2).trans (HA.out.2.1 j u hj))
  have HTh : Hid (wD.there G (k * 107) 107) := Lib.hid (HD.out.pl.there k 0 107 hk (by decide))
  have HS := Lib.hid (HD.out.cells k 0 hk (rowL f) (by rw [rowL_len]; decide))
  have HGx : Hid (xb ≠ G) := Lib.hid (by have := H.out.pl.gl.2; have := HXb.out; omega)
  refine wp_region_noPanic ?_
  refine wp_region_held_drew (S := fun w' => World.cell? w' ⟨P, 1, none⟩ = some (.slice (some ⟨G, 0, none⟩) n n) ∧ w'.rangeAt xb 0 (rowL f)) (by kernel_rfl) (by rw [← hwD]; exact ⟨HD.out.pl.f1, HRg.out⟩) (fun hHeld => ?_)
  rw [← hwD] at hHeld ⊢
  clear hwD
  refine wpAnyH_take (i := 0) (v := ?_) (by rfl) (by kernel_rfl) (by kernel_rfl) (by kernel_rfl) (fun _ _ _ h => h) (Or.inl ⟨by kernel_rfl, ?_⟩) (by assumption) ?_; rotate_left 1; (focus (intro w hSw; (try dsimp only at hSw); simp only [List.getElem_toArray, List.getElem_cons_succ, List.getElem_cons_zero]; all_goals go_simp; all_goals (try with_reducible rfl))); (try simp only [Act.put, List.getElem_toArray, List.getElem_cons_succ, List.getElem_cons_zero, List.setIfInBounds_toArray, List.set_cons_zero, List.set_cons_succ])
  refine wpAnyH_take (i := 1) (v := ?_) (by rfl) (by kernel_rfl) (by kernel_rfl) (by kernel_rfl) (fun _ _ _ h => h) (Or.inl ⟨by kernel_rfl, ?_⟩) (by assumption) ?_; rotate_left 1; (focus (intro w hSw; (try dsimp only at hSw); simp only [List.getElem_toArray, List.getElem_cons_succ, List.getElem_cons_zero]; all_goals go_simp; all_goals (try with_reducible rfl))); (try simp only [Act.put, List.getElem_toArray, List.getElem_cons_succ, List.getElem_cons_zero, List.setIfInBounds_toArray, List.set_cons_zero, List.set_cons_succ])
  refine wpAnyH_take (i := 2) (v := ?_) (by rfl) (by kernel_rfl) (by kernel_rfl) (by kernel_rfl) (fun _ _ _ h => h) (Or.inl ⟨by kernel_rfl, ?_⟩) (by assumption) ?_; rotate_left 1; (focus (intro w hSw; (try dsimp only at hSw); simp only [List.getElem_toArray, List.getElem_cons_succ, List.getElem_cons_zero]; all_goals go_simp; all_goals (try with_reducible rfl))); (try simp only [Act.put, List.getElem_toArray, List.getElem_cons_succ, List.getElem_cons_zero, List.setIfInBounds_toArray, List.set_cons_zero, List.set_cons_succ])
  refine wpAnyH_take (i := 3) (v := ?_) (by rfl) (by kernel_rfl) (by kernel_rfl) (by kernel_rfl) (fun _ _ _ h => h) (Or.inl ⟨by kernel_rfl, ?_⟩) (by assumption) ?_; rotate_left 1; (focus (intro w hSw; (try dsimp only at hSw); simp only [List.getElem_toArray, List.getElem_cons_succ, List.getElem_cons_zero]; all_goals go_simp; all_goals (try with_reducible rfl))); (try simp only [Act.put, List.getElem_toArray, List.getElem_cons_succ, List.getElem_cons_zero, List.setIfInBounds_toArray, List.set_cons_zero, List.set_cons_succ])
  refine wpAnyH_take (i := 4) (v := ?_) (by rfl) (by kernel_rfl) (by kernel_rfl) (by kernel_rfl) (fun _ _ _ h => h) (Or.inl ⟨by kernel_rfl, ?_⟩) (by assumption) ?_; rotate_left 1; (focus (intro w hSw; (try dsimp only at hSw); simp only [List.getElem_toArray, List.getElem_cons_succ, List.getElem_cons_zero]; all_goals go_simp; all_goals (try with_reducible rfl))); (try simp only [Act.put, List.getElem_toArray, List.getElem_cons_succ, List.getElem_cons_zero, List.setIfInBounds_toArray, List.set_cons_zero, List.set_cons_succ])
  refine wpAnyH_take (i := 5) (v := .agg (rowL f).toArray) (by rfl) (by kernel_rfl) (by kernel_rfl) (by kernel_rfl) (fun _ _ _ h => h) (yieldsIf_load_mid (by kernel_rfl) 85 (.tmp 5) (by rfl) xb 0 (by rfl) (rowL f) _ (fun w h => h.2) Tryd.underlying85 rfl (by rw [rowL_len]; exact infoDomS)) (by assumption) ?_
  (try simp only [Act.put, List.getElem_toArray, List.getElem_cons_succ, List.getElem_cons_zero, List.setIfInBounds_toArray, List.set_cons_zero, List.set_cons_succ])
  refine wpAnyH_take (i := 6) (v := ?_) (by rfl) (by kernel_rfl) (by kernel_rfl) (by kernel_rfl) (fun _ _ _ h => h) (Or.inl ⟨by kernel_rfl, ?_⟩) (by assumption) ?_; rotate_left 1; (focus (intro w hSw; (try dsimp only at hSw); simp only [List.getElem_toArray, List.getElem_cons_succ, List.getElem_cons_zero]; all_goals go_simp; all_goals (try with_reducible rfl))); (try simp only [Act.put, List.getElem_toArray, List.getElem_cons_succ, List.getElem_cons_zero, List.setIfInBounds_toArray, List.set_cons_zero, List.set_cons_succ])
  refine wpAnyH_ready (rs := [7]) (by kernel_rfl) (by simp) ?_; refine AllReadyH.cons (by rfl) (fun K hK => ?_) AllReadyH.nil; rw [if_pos (by kernel_rfl)]; simp only [List.getElem_toArray, List.getElem_cons_succ, List.getElem_cons_zero]
  refine wp_store_mid _ _ _ (by rfl) G (k * 107) (rowL f).toArray (by rfl) (by rfl) (by rw [rowL_size]; exact HTh.out) (by rw [rowL_size]; exact infoDomS) (rowL_one f ho.out) ?_
  have HS2 := HS.out
  rw [Nat.add_zero] at HS2
  have HS3 := Lib.hid HS2
  clear HS2
  generalize hwE : World.setCells wD G (k * 107) _ = wE
  have HF : Hid (DsAt wE base P p B G Q n c th vr_ (updS W k 0 (rowL f)) ∧ wD.grownBy wE (some G)) := Lib.hid (by rw [← hwE]; exact HS3.out)
  clear hwE HS HS3
  refine hK.out _ _ ⟨HF.out.1.pl.f1, fun j u hj => (World.cell?_of_block (a := ⟨xb, 0 + j, none⟩) (HF.out.2.block xb (Nat.lt_of_lt_of_le HA.out.2.2 HBD.out.size) (fun e => HGx.out (by injection e)))).trans (HRg.out j u hj)⟩ (fun hHeld => ?_)
  clear hK K hHeld
  (try simp only [Act.put, List.getElem_toArray, List.getElem_cons_succ, List.getElem_cons_zero, List.setIfInBounds_toArray, List.set_cons_zero, List.set_cons_succ])
  refine wpAnyH_done (by kernel_rfl) ?_ _
  refine NoPanic.normal ?_
  go_wp2_with fail
  go_ret
  exact ⟨rfl, HF.out.1, (PBelow.of_below (B := B) (G := G) (HA.out.1.trans (HBD.out.mono HA.out.1.size))).trans (PBelow.of HF.out.2 (.inr rfl))⟩
set_option maxHeartbeats 1000000 in
theorem dkeyof_in {base P p B G Q n c : Nat} {th : Nat → Bool} {vr_ : Nat → Int} {W : Nat → Nat → Value} (c0 x d : Int) (k : Nat) (hx : Hid (x = (k : Int))) (hk : k < n) (ht : Hid (th k = true)) (hd : d ≤ 536870911) (v : Int) (hv : Hid (vr_ k = v)) (w : World) (h : DsAt w base P p B G Q n c th vr_ W) :
    Calls Tryd.prog 66 #[.pointer (some ⟨P, 0, none⟩), .int .i64 c0, .int .i64 x, .int .u32 d] w fun e w' => e = .returned (Value.agg #[.int .i64 c0, .int .i64 x, .int .i64 v, .int .i64 0, .int .u32 d]) ∧ Below w.heap.size w w' := by
  have H := Lib.hid (fun o => h.below ((Below.refl _ _).alloc (Nat.le_refl _) _ : Below w.heap.size w (w.alloc o)))
  have f0 := fun o => (h.below ((Below.refl _ _).alloc (Nat.le_refl _) _ : Below w.heap.size w (w.alloc o))).pl.f0
  have d0 : decide (536870911 < d) = false := decide_eq_false (by omega)
  have hkx := hx.out
  subst hkx
  clear h
  go_enter Tryd.func66, Tryd.ntmps66
  go_wp2_with (first
    | (go_at_call 32; (with_reducible refine (athere_in k hk true ht _ (H.out _).pl.ar).mono ?_); rintro e w1 ⟨rfl, rfl⟩)
    | (go_at_call 44; (with_reducible refine (aver_in k hk v hv _ (H.out _).pl.ar).mono ?_); rintro e w1 ⟨rfl, rfl⟩))
  refine bodyPost_ret (v := (Value.agg #[.int .i64 c0, .int .i64 (k : Int), .int .i64 v, .int .i64 0, .int .u32 d])) (by simp [results, Tryd.results66, go_sem]) rfl ⟨rfl, ?_⟩
  exact (Below.refl _ _).alloc (Nat.le_refl _) _
set_option maxHeartbeats 1000000 in
theorem dkeyof_big {base P p B G Q n c : Nat} {th : Nat → Bool} {vr_ : Nat → Int} {W : Nat → Nat → Value} (c0 x d : Int) (k : Nat) (hx : Hid (x = (k : Int))) (hk : k < n) (ht : Hid (th k = true)) (hd : 536870911 < d) (w : World) (h : DsAt w base P p B G Q n c th vr_ W) :
    Calls Tryd.prog 66 #[.pointer (some ⟨P, 0, none⟩), .int .i64 c0, .int .i64 x, .int .u32 d] w fun e w' => e = .returned (Value.agg #[.int .i64 0, .int .i64 0, .int .i64 0, .int .i64 0, .int .u32 0]) ∧ Below w.heap.size w w' := by
  have H := Lib.hid (fun o => h.below ((Below.refl _ _).alloc (Nat.le_refl _) _ : Below w.heap.size w (w.alloc o)))
  have f0 := fun o => (h.below ((Below.refl _ _).alloc (Nat.le_refl _) _ : Below w.heap.size w (w.alloc o))).pl.f0
  have d0 : decide (536870911 < d) = true := decide_eq_true (by omega)
  have hkx := hx.out
  subst hkx
  clear h
  go_enter Tryd.func66, Tryd.ntmps66
  go_wp2_with (first
    | (go_at_call 32; (with_reducible refine (athere_in k hk true ht _ (H.out _).pl.ar).mono ?_); rintro e w1 ⟨rfl, rfl⟩))
  refine bodyPost_ret (v := (Value.agg #[.int .i64 0, .int .i64 0, .int .i64 0, .int .i64 0, .int .u32 0])) (by simp [results, Tryd.results66, go_sem]) rfl ⟨rfl, ?_⟩
  exact (Below.refl _ _).alloc (Nat.le_refl _) _
theorem athere_dead {base p B n c : Nat} {th : Nat → Bool} {vr : Nat → Int} (k : Nat) (x : Int) (hx : Hid (x = (k : Int))) (ht : Hid (th k = false)) (w : World) (hA : ArAt w base p B n c th vr) : Calls Tryd.prog 32 #[.pointer (some ⟨p, 0, none⟩), .int .i64 x] w fun e w' => e = .returned (.bool false) ∧ w = w' := by
  rw [hx.out]
  exact athere_is (k : Int) false (Lib.hid (by unfold thereB; rw [Int.toNat_natCast, ht.out]; simp)) w hA
set_option maxHeartbeats 1000000 in
theorem dkeyof_dead {base P p B G Q n c : Nat} {th : Nat → Bool} {vr_ : Nat → Int} {W : Nat → Nat → Value} (c0 x d : Int) (k : Nat) (hx : Hid (x = (k : Int))) (ht : Hid (th k = false)) (w : World) (h : DsAt w base P p B G Q n c th vr_ W) :
    Calls Tryd.prog 66 #[.pointer (some ⟨P, 0, none⟩), .int .i64 c0, .int .i64 x, .int .u32 d] w fun e w' => e = .returned (Value.agg #[.int .i64 0, .int .i64 0, .int .i64 0, .int .i64 0, .int .u32 0]) ∧ Below w.heap.size w w' := by
  have H := Lib.hid (fun o => h.below ((Below.refl _ _).alloc (Nat.le_refl _) _ : Below w.heap.size w (w.alloc o)))
  have f0 := fun o => (h.below ((Below.refl _ _).alloc (Nat.le_refl _) _ : Below w.heap.size w (w.alloc o))).pl.f0
  clear h
  go_enter Tryd.func66, Tryd.ntmps66
  go_wp2_with (first
    | (go_at_call 32; (with_reducible refine (athere_dead k x hx ht _ (H.out _).pl.ar).mono ?_); rintro e w1 ⟨rfl, rfl⟩))
  refine bodyPost_ret (v := (Value.agg #[.int .i64 0, .int .i64 0, .int .i64 0, .int .i64 0, .int .u32 0])) (by simp [results, Tryd.results66, go_sem]) rfl ⟨rfl, ?_⟩
  exact (Below.refl _ _).alloc (Nat.le_refl _) _
theorem dkey_of {P : Nat} (x : Int) (k0 k1 k2 k3 k4 : Int) (w : World) (h : ∀ W, Below w.heap.size w W → Calls Tryd.prog 66 #[.pointer (some ⟨P, 0, none⟩), .int .i64 4, .int .i64 x, .int .u32 0] W fun e w' => e = .returned (Value.agg #[.int .i64 k0, .int .i64 k1, .int .i64 k2, .int .i64 k3, .int .u32 k4]) ∧ Below W.heap.size W w') :
    Calls Tryd.prog 41 #[.pointer (some ⟨P, 0, none⟩), .int .i64 x] w fun e w' => e = .returned (Value.agg #[.int .i64 k0, .int .i64 k1, .int .i64 k2, .int .i64 k3, .int .u32 k4]) ∧ Below w.heap.size w w' := by
  have HC := Lib.hid h
  clear h
  go_enter Tryd.func41, Tryd.ntmps41
  go_upto_region 1 with fail
  generalize hA : World.alloc w _ = wA
  have HA : Hid (Below w.heap.size w wA ∧ KeyC wA w.heap.size 0 0 0 0 0) := Lib.hid (by rw [← hA]; exact ⟨(Below.refl _ _).alloc (Nat.le_refl _) _, KeyC.new w 0 0 0 0 0 _⟩)
  clear hA
  go_wp2_with (first
    | (go_at_call 66; (with_reducible refine (HC.out _ HA.out.1).mono ?_); rintro e w1 ⟨rfl, hb⟩; have HB := Lib.hid (HA.out.1.trans (hb.mono HA.out.1.size)); have HK := Lib.hid (HA.out.2.below hb); have q0 := HK.out.c0; have q1 := HK.out.c1; have q2 := HK.out.c2; have q3 := HK.out.c3; have q4 := HK.out.c4; have g0 := HK.out.fr 0; have g1 := HK.out.fr 1; have g2 := HK.out.fr 2; have g3 := HK.out.fr 3; have g4 := HK.out.fr 4; clear hb))
  have t := HK.out.set k0 k1 k2 k3 k4
  have t0 := t.c0
  have t1 := t.c1
  have t2 := t.c2
  have t3 := t.c3
  have t4 := t.c4
  refine bodyPost_ret (v := (Value.agg #[.int .i64 k0, .int .i64 k1, .int .i64 k2, .int .i64 k3, .int .u32 k4])) (by simp [results, Tryd.results41, go_sem, t0, t1, t2, t3, t4]) rfl ⟨rfl, ?_⟩
  exact ((((HB.out.setCell (Nat.le_refl _) _).setCell (Nat.le_refl _) _).setCell (Nat.le_refl _) _).setCell (Nat.le_refl _) _).setCell (Nat.le_refl _) _
set_option maxHeartbeats 1000000 in
theorem dresume_dead {base P p B G Q n c : Nat} {th : Nat → Bool} {vr_ : Nat → Int} {W : Nat → Nat → Value} (x : Int) (k : Nat) (hx : Hid (x = (k : Int))) (ht : Hid (th k = false)) (w : World) (h : DsAt w base P p B G Q n c th vr_ W) :
    Calls Tryd.prog 42 #[.pointer (some ⟨P, 0, none⟩), .int .i64 x] w fun e w' => e = .returned (Value.agg #[.int .i64 0, .int .i64 0, .int .i64 0, .int .i64 0, .int .u32 0]) ∧ Below w.heap.size w w' := by
  have H := Lib.hid (fun o => h.below ((Below.refl _ _).alloc (Nat.le_refl _) _ : Below w.heap.size w (w.alloc o)))
  have f0 := fun o => (h.below ((Below.refl _ _).alloc (Nat.le_refl _) _ : Below w.heap.size w (w.alloc o))).pl.f0
  clear h
  go_enter Tryd.func42, Tryd.ntmps42
  go_wp2_with (first
    | (go_at_call 32; (with_reducible refine (athere_dead k x hx ht _ (H.out _).pl.ar).mono ?_); rintro e w1 ⟨rfl, rfl⟩))
  refine bodyPost_ret (v := (Value.agg #[.int .i64 0, .int .i64 0, .int .i64 0, .int .i64 0, .int .u32 0])) (by simp [results, Tryd.results42, go_sem]) rfl ⟨rfl, ?_⟩
  exact (Below.refl _ _).alloc (Nat.le_refl _) _
set_option maxHeartbeats 1000000 in
theorem dresume_no {base P p B G Q n c : Nat} {th : Nat → Bool} {vr_ : Nat → Int} {W : Nat → Nat → Value} (x : Int) (k : Nat) (hx : Hid (x = (k : Int))) (hk : k < n) (ht : Hid (th k = true)) (s : Int) (hs : Hid (W k 9 = .int .i64 s)) (hs2 : s ≠ 2) (w : World) (h : DsAt w base P p B G Q n c th vr_ W) :
    Calls Tryd.prog 42 #[.pointer (some ⟨P, 0, none⟩), .int .i64 x] w fun e w' => e = .returned (Value.agg #[.int .i64 0, .int .i64 0, .int .i64 0, .int .i64 0, .int .u32 0]) ∧ Below w.heap.size w w' := by
  have H := Lib.hid (fun o => h.below ((Below.refl _ _).alloc (Nat.le_refl _) _ : Below w.heap.size w (w.alloc o)))
  have f0 := fun o => (h.below ((Below.refl _ _).alloc (Nat.le_refl _) _ : Below w.heap.size w (w.alloc o))).pl.f0
  have f1 := fun o => (h.below ((Below.refl _ _).alloc (Nat.le_refl _) _ : Below w.heap.size w (w.alloc o))).pl.f1
  have c9 : ∀ o, (w.alloc o).cell? ⟨G, k * 107 + 9, none⟩ = some (.int .i64 s) := fun o => ((h.below ((Below.refl _ _).alloc (Nat.le_refl _) _ : Below w.heap.size w (w.alloc o))).pl.cell k 9 hk (by decide)).trans (congrArg some hs.out)
  have d0 : (s != 2) = true := bne_iff_ne.2 hs2
  have k0 : (0 : Int) ≤ k := by omega
  have k1 : (k : Int) < n := by omega
  have hkx := hx.out
  subst hkx
  clear h
  go_enter Tryd.func42, Tryd.ntmps42
  go_wp2_with (first
    | (go_at_call 32; (with_reducible refine (athere_in k hk true ht _ (H.out _).pl.ar).mono ?_); rintro e w1 ⟨rfl, rfl⟩))
  refine bodyPost_ret (v := (Value.agg #[.int .i64 0, .int .i64 0, .int .i64 0, .int .i64 0, .int .u32 0])) (by simp [results, Tryd.results42, go_sem]) rfl ⟨rfl, ?_⟩
  exact (Below.refl _ _).alloc (Nat.le_refl _) _
set_option maxHeartbeats 2000000 in
theorem dresume_yes {base P p B G Q n c : Nat} {th : Nat → Bool} {vr_ : Nat → Int} {W : Nat → Nat → Value} (x : Int) (k : Nat) (hx : Hid (x = (k : Int))) (hk : k < n) (ht : Hid (th k = true)) (wt : Int) (hs : Hid (W k 9 = .int .i64 2 ∧ W k 106 = .int .i64 wt)) (u1 : 0 ≤ wt) (u2 : wt ≤ 536870911) (v : Int) (hv : Hid (vr_ k = v)) (w : World) (h : DsAt w base P p B G Q n c th vr_ W) :
    Calls Tryd.prog 42 #[.pointer (some ⟨P, 0, none⟩), .int .i64 x] w fun e w' => e = .returned (Value.agg #[.int .i64 6, .int .i64 x, .int .i64 v, .int .i64 0, .int .u32 wt]) ∧ Below w.heap.size w w' := by
  have H := Lib.hid (fun W' (hb : Below w.heap.size w W') => h.below hb)
  have k0 : (0 : Int) ≤ k := by omega
  have k1 : (k : Int) < n := by omega
  have hw : IntKind.u32.wrap wt = wt := by rw [IntKind.wrap_u32]; omega
  have hkx := hx.out
  subst hkx
  clear h
  go_enter Tryd.func42, Tryd.ntmps42
  go_upto_region 1 with fail
  generalize hA : World.alloc w _ = wA
  have HA : Hid (Below w.heap.size w wA ∧ KeyC wA w.heap.size 0 0 0 0 0) := Lib.hid (by rw [← hA]; exact ⟨(Below.refl _ _).alloc (Nat.le_refl _) _, KeyC.new w 0 0 0 0 0 _⟩)
  clear hA
  have H1 := Lib.hid (H.out _ HA.out.1)
  have f0 := H1.out.pl.f0
  have f1 := H1.out.pl.f1
  have c9 := (H1.out.pl.cell k 9 hk (by decide)).trans (congrArg some hs.out.1)
  have c106 := (H1.out.pl.cell k 106 hk (by decide)).trans (congrArg some hs.out.2)
  go_wp2_with (first
    | (go_at_call 32; (with_reducible refine (athere_in k hk true ht _ H1.out.pl.ar).mono ?_); rintro e w1 ⟨rfl, rfl⟩)
    | (go_at_call 66; (with_reducible refine (dkeyof_in 6 (k : Int) wt k (Lib.hid rfl) hk ht u2 v hv _ H1.out).mono ?_); rintro e w1 ⟨rfl, hb⟩; have HB := Lib.hid (HA.out.1.trans (hb.mono HA.out.1.size)); have HK := Lib.hid (HA.out.2.below hb); have q0 := HK.out.c0; have q1 := HK.out.c1; have q2 := HK.out.c2; have q3 := HK.out.c3; have q4 := HK.out.c4; have g0 := HK.out.fr 0; have g1 := HK.out.fr 1; have g2 := HK.out.fr 2; have g3 := HK.out.fr 3; have g4 := HK.out.fr 4; clear hb))
  have t := HK.out.set 6 (k : Int) v 0 wt
  have t0 := t.c0
  have t1 := t.c1
  have t2 := t.c2
  have t3 := t.c3
  have t4 := t.c4
  refine bodyPost_ret (v := (Value.agg #[.int .i64 6, .int .i64 (k : Int), .int .i64 v, .int .i64 0, .int .u32 wt])) (by simp [results, Tryd.results42, go_sem, t0, t1, t2, t3, t4]) rfl ⟨rfl, ?_⟩
  exact ((((HB.out.setCell (Nat.le_refl _) _).setCell (Nat.le_refl _) _).setCell (Nat.le_refl _) _).setCell (Nat.le_refl _) _).setCell (Nat.le_refl _) _
end Go.Proofs.YtncopdhhchmpeaaDoor
namespace Go.Proofs.YtncopdhhchmpeaaDoor
open Go.ChangeShapes Go.WideShapes Go.ChangeAt Go.RowKit
set_option linter.unusedVariables false
set_option linter.unusedSimpArgs false
/-- Is what a key names there? -/
def liveK (L : BLoc) (D : BSt) (k0 k1 k2 : Int) : Bool := if k0 = 4 then (thereB L.dn D.dt k1 && (D.dv k1.toNat == k2)) else (if k0 = 2 then (thereB L.a.n D.nt k1 && (D.nv k1.toNat == k2)) else if k0 = 3 then (thereB L.b.n D.pt k1 && (D.pv k1.toNat == k2)) else false)
theorem KeyC.k5 {w : World} {b : Nat} {k0 k1 k2 k3 k4 : Int} (h : KeyC w b k0 k1 k2 k3 k4) : (World.cell? w ⟨b, 0, none⟩ = some (.int .i64 k0) ∧ World.cell? w ⟨b, 1, none⟩ = some (.int .i64 k1) ∧ World.cell? w ⟨b, 2, none⟩ = some (.int .i64 k2) ∧ World.cell? w ⟨b, 3, none⟩ = some (.int .i64 k3) ∧ World.cell? w ⟨b, 4, none⟩ = some (.int .u32 k4)) := ⟨h.c0, h.c1, h.c2, h.c3, h.c4⟩
set_option maxRecDepth 100000 in
set_option maxHeartbeats 1000000 in
theorem blive_is {w0 : World} {L : BLoc} {D : BSt} (k0 k1 k2 k3 k4 : Int) (t : Bool) (ht : Hid (liveK L D k0 k1 k2 = t)) (w : World) (h : BW w0 w L D) :
    Calls Tryd.prog 34 #[.pointer (some ⟨L.P, 0, none⟩), (Value.agg #[.int .i64 k0, .int .i64 k1, .int .i64 k2, .int .i64 k3, .int .u32 k4])] w fun e w' => e = .returned (.bool t) ∧ Below w.heap.size w w' := by
  have H := Lib.hid h
  clear h
  by_cases h4 : k0 = 4
  · have t4 : (k0 == 4) = true := by simpa using h4
    have HT : Hid ((thereB L.dn D.dt k1 && (D.dv k1.toNat == k2)) = t) := Lib.hid (by have := ht.out; unfold liveK at this; rwa [if_pos h4] at this)
    clear ht h4
    go_enter Tryd.func34, Tryd.ntmps34
    go_upto_region 2 with fail
    generalize hw2 : World.alloc w _ = w2
    have HB2 : Hid (Below w.heap.size w w2) := Lib.hid (by rw [← hw2]; exact (Below.refl _ _).alloc (Nat.le_refl _) _)
    obtain ⟨kb, hkb⟩ : ∃ kb, kb = w.heap.size := ⟨_, rfl⟩
    have HK2 : Hid (KeyC w2 kb k0 k1 k2 k3 k4) := Lib.hid (by rw [← hw2, hkb]; exact KeyC.new w k0 k1 k2 k3 k4 _)
    rw [← hkb]
    clear hw2 hkb
    have HW2 := Lib.hid ((H.out.below HB2.out).below (Below.refl _ _).drew)
    have hS0 : (World.cell? w2.drew ⟨L.P, 2, none⟩ = some (.pointer (some ⟨L.dP, 0, none⟩)) ∧ World.cell? w2.drew ⟨L.dP, 0, none⟩ = some (.pointer (some ⟨L.dp, 0, none⟩)) ∧ (World.cell? w2.drew ⟨kb, 0, none⟩ = some (.int .i64 k0) ∧ World.cell? w2.drew ⟨kb, 1, none⟩ = some (.int .i64 k1) ∧ World.cell? w2.drew ⟨kb, 2, none⟩ = some (.int .i64 k2) ∧ World.cell? w2.drew ⟨kb, 3, none⟩ = some (.int .i64 k3) ∧ World.cell? w2.drew ⟨kb, 4, none⟩ = some (.int .u32 k4))) := ⟨HW2.out.kk.f2, HW2.out.dd.pl.f0, (HK2.out.below (Below.refl _ _).drew).k5⟩
    refine wp_region_noPanic ?_
    refine wp_region_held_drew (S := fun w' => (World.cell? w' ⟨L.P, 2, none⟩ = some (.pointer (some ⟨L.dP, 0, none⟩)) ∧ World.cell? w' ⟨L.dP, 0, none⟩ = some (.pointer (some ⟨L.dp, 0, none⟩)) ∧ (World.cell? w' ⟨kb, 0, none⟩ = some (.int .i64 k0) ∧ World.cell? w' ⟨kb, 1, none⟩ = some (.int .i64 k1) ∧ World.cell? w' ⟨kb, 2, none⟩ = some (.int .i64 k2) ∧ World.cell? w' ⟨kb, 3, none⟩ = some (.int .i64 k3) ∧ World.cell? w' ⟨kb, 4, none⟩ = some (.int .u32 k4)))) (by kernel_rfl) hS0 (fun hHeld => ?_)
    clear hS0
    refine wpAnyH_take (i := 0) (v := ?_) (by rfl) (by kernel_rfl) (by kernel_rfl) (by kernel_rfl) (fun _ _ _ h => h) (Or.inl ⟨by kernel_rfl, ?_⟩) (by assumption) ?_; rotate_left 1; (focus (intro w hSw; (try dsimp only at hSw); simp only [List.getElem_toArray, List.getElem_cons_succ, List.getElem_cons_zero]; all_goals go_simp; all_goals (try with_reducible rfl))); (try simp only [Act.put, List.getElem_toArray, List.getElem_cons_succ, List.getElem_cons_zero, List.setIfInBounds_toArray, List.set_cons_zero, List.set_cons_succ])
    refine wpAnyH_take (i := 1) (v := ?_) (by rfl) (by kernel_rfl) (by kernel_rfl) (by kernel_rfl) (fun _ _ _ h => h) (Or.inl ⟨by kernel_rfl, ?_⟩) (by assumption) ?_; rotate_left 1; (focus (intro w hSw; (try dsimp only at hSw); simp only [List.getElem_toArray, List.getElem_cons_succ, List.getElem_cons_zero]; all_goals go_simp; all_goals (try with_reducible rfl))); (try simp only [Act.put, List.getElem_toArray, List.getElem_cons_succ, List.getElem_cons_zero, List.setIfInBounds_toArray, List.set_cons_zero, List.set_cons_succ])
    refine wpAnyH_take (i := 2) (v := ?_) (by rfl) (by kernel_rfl) (by kernel_rfl) (by kernel_rfl) (fun _ _ _ h => h) (Or.inl ⟨by kernel_rfl, ?_⟩) (by assumption) ?_; rotate_left 1; (focus (intro w hSw; (try dsimp only at hSw); simp only [List.getElem_toArray, List.getElem_cons_succ, List.getElem_cons_zero]; all_goals go_simp; all_goals (try with_reducible rfl))); (try simp only [Act.put, List.getElem_toArray, List.getElem_cons_succ, List.getElem_cons_zero, List.setIfInBounds_toArray, List.set_cons_zero, List.set_cons_succ])
    refine wpAnyH_take (i := 3) (v := ?_) (by rfl) (by kernel_rfl) (by kernel_rfl) (by kernel_rfl) (fun _ _ _ h => h) (Or.inl ⟨by kernel_rfl, ?_⟩) (by assumption) ?_; rotate_left 1; (focus (intro w hSw; (try dsimp only at hSw); simp only [List.getElem_toArray, List.getElem_cons_succ, List.getElem_cons_zero]; all_goals go_simp; all_goals (try with_reducible rfl))); (try simp only [Act.put, List.getElem_toArray, List.getElem_cons_succ, List.getElem_cons_zero, List.setIfInBounds_toArray, List.set_cons_zero, List.set_cons_succ])
    refine wpAnyH_take (i := 4) (v := ?_) (by rfl) (by kernel_rfl) (by kernel_rfl) (by kernel_rfl) (fun _ _ _ h => h) (Or.inl ⟨by kernel_rfl, ?_⟩) (by assumption) ?_; rotate_left 1; (focus (intro w hSw; (try dsimp only at hSw); simp only [List.getElem_toArray, List.getElem_cons_succ, List.getElem_cons_zero]; all_goals go_simp; all_goals (try with_reducible rfl))); (try simp only [Act.put, List.getElem_toArray, List.getElem_cons_succ, List.getElem_cons_zero, List.setIfInBounds_toArray, List.set_cons_zero, List.set_cons_succ])
    refine wpAnyH_take (i := 5) (v := ?_) (by rfl) (by kernel_rfl) (by kernel_rfl) (by kernel_rfl) (fun _ _ _ h => h) (Or.inl ⟨by kernel_rfl, ?_⟩) (by assumption) ?_; rotate_left 1; (focus (intro w hSw; (try dsimp only at hSw); simp only [List.getElem_toArray, List.getElem_cons_succ, List.getElem_cons_zero]; all_goals go_simp; all_goals (try with_reducible rfl))); (try simp only [Act.put, List.getElem_toArray, List.getElem_cons_succ, List.getElem_cons_zero, List.setIfInBounds_toArray, List.set_cons_zero, List.set_cons_succ])
    refine wpAnyH_take (i := 6) (v := ?_) (by rfl) (by kernel_rfl) (by kernel_rfl) (by kernel_rfl) (fun _ _ _ h => h) (Or.inl ⟨by kernel_rfl, ?_⟩) (by assumption) ?_; rotate_left 1; (focus (intro w hSw; (try dsimp only at hSw); simp only [List.getElem_toArray, List.getElem_cons_succ, List.getElem_cons_zero]; all_goals go_simp; all_goals (try with_reducible rfl))); (try simp only [Act.put, List.getElem_toArray, List.getElem_cons_succ, List.getElem_cons_zero, List.setIfInBounds_toArray, List.set_cons_zero, List.set_cons_succ])
    refine wpAnyH_take (i := 7) (v := ?_) (by rfl) (by kernel_rfl) (by kernel_rfl) (by kernel_rfl) (fun _ _ _ h => h) (Or.inl ⟨by kernel_rfl, ?_⟩) (by assumption) ?_; rotate_left 1; (focus (intro w hSw; (try dsimp only at hSw); simp only [List.getElem_toArray, List.getElem_cons_succ, List.getElem_cons_zero]; all_goals go_simp; all_goals (try with_reducible rfl))); (try simp only [Act.put, List.getElem_toArray, List.getElem_cons_succ, List.getElem_cons_zero, List.setIfInBounds_toArray, List.set_cons_zero, List.set_cons_succ])
    refine wpAnyH_take (i := 8) (v := ?_) (by rfl) (by kernel_rfl) (by kernel_rfl) (by kernel_rfl) (fun _ _ _ h => h) (Or.inl ⟨by kernel_rfl, ?_⟩) (by assumption) ?_; rotate_left 1; (focus (intro w hSw; (try dsimp only at hSw); simp only [List.getElem_toArray, List.getElem_cons_succ, List.getElem_cons_zero]; all_goals go_simp; all_goals (try with_reducible rfl))); (try simp only [Act.put, List.getElem_toArray, List.getElem_cons_succ, List.getElem_cons_zero, List.setIfInBounds_toArray, List.set_cons_zero, List.set_cons_succ])
    refine wpAnyH_take (i := 9) (v := ?_) (by rfl) (by kernel_rfl) (by kernel_rfl) (by kernel_rfl) (fun _ _ _ h => h) (Or.inl ⟨by kernel_rfl, ?_⟩) (by assumption) ?_; rotate_left 1; (focus (intro w hSw; (try dsimp only at hSw); simp only [List.getElem_toArray, List.getElem_cons_succ, List.getElem_cons_zero]; all_goals go_simp; all_goals (try with_reducible rfl))); (try simp only [Act.put, List.getElem_toArray, List.getElem_cons_succ, List.getElem_cons_zero, List.setIfInBounds_toArray, List.set_cons_zero, List.set_cons_succ])
    refine wpAnyH_take (i := 10) (v := ?_) (by rfl) (by kernel_rfl) (by kernel_rfl) (by kernel_rfl) (fun _ _ _ h => h) (Or.inl ⟨by kernel_rfl, ?_⟩) (by assumption) ?_; rotate_left 1; (focus (intro w hSw; (try dsimp only at hSw); simp only [List.getElem_toArray, List.getElem_cons_succ, List.getElem_cons_zero]; all_goals go_simp; all_goals (try with_reducible rfl))); (try simp only [Act.put, List.getElem_toArray, List.getElem_cons_succ, List.getElem_cons_zero, List.setIfInBounds_toArray, List.set_cons_zero, List.set_cons_succ])
    refine wpAnyH_ready (rs := [11]) (by kernel_rfl) (by simp) ?_; refine AllReadyH.cons (by rfl) (fun K hK => ?_) AllReadyH.nil; rw [if_pos (by kernel_rfl)]; simp only [List.getElem_toArray, List.getElem_cons_succ, List.getElem_cons_zero]
    go_wp2_with (first
      | (go_at_call 46; (with_reducible refine (alive_is k1 k2 t HT _ HW2.out.dd.pl.ar).mono ?_); rintro e w3 ⟨rfl, rfl⟩))
    refine hK.out _ _ (by assumption) (fun hHeld => ?_)
    clear hK K
    (try simp only [Act.put, List.getElem_toArray, List.getElem_cons_succ, List.getElem_cons_zero, List.setIfInBounds_toArray, List.set_cons_zero, List.set_cons_succ])
    refine wpAnyH_take (i := 12) (v := ?_) (by rfl) (by kernel_rfl) (by kernel_rfl) (by kernel_rfl) (fun _ _ _ h => h) (Or.inl ⟨by kernel_rfl, ?_⟩) (by assumption) ?_; rotate_left 1; (focus (intro w hSw; (try dsimp only at hSw); simp only [List.getElem_toArray, List.getElem_cons_succ, List.getElem_cons_zero]; all_goals go_simp; all_goals (try with_reducible rfl))); (try simp only [Act.put, List.getElem_toArray, List.getElem_cons_succ, List.getElem_cons_zero, List.setIfInBounds_toArray, List.set_cons_zero, List.set_cons_succ])
    refine wpAnyH_done (by kernel_rfl) ?_ _
    refine NoPanic.normal ?_
    go_wp2_with fail
    go_ret
    exact ⟨rfl, HB2.out.drew⟩
  · have t4 : (k0 == 4) = false := by simpa using h4
    have HT : Hid ((if k0 = 2 then (thereB L.a.n D.nt k1 && (D.nv k1.toNat == k2)) else if k0 = 3 then (thereB L.b.n D.pt k1 && (D.pv k1.toNat == k2)) else false) = t) := Lib.hid (by have := ht.out; unfold liveK at this; rwa [if_neg h4] at this)
    clear ht h4
    go_enter Tryd.func34, Tryd.ntmps34
    go_upto_region 3 with fail
    generalize hw2 : World.alloc w _ = w2
    have HB2 : Hid (Below w.heap.size w w2) := Lib.hid (by rw [← hw2]; exact (Below.refl _ _).alloc (Nat.le_refl _) _)
    obtain ⟨kb, hkb⟩ : ∃ kb, kb = w.heap.size := ⟨_, rfl⟩
    have HK2 : Hid (KeyC w2 kb k0 k1 k2 k3 k4) := Lib.hid (by rw [← hw2, hkb]; exact KeyC.new w k0 k1 k2 k3 k4 _)
    rw [← hkb]
    clear hw2 hkb
    have HW2 := Lib.hid ((H.out.below HB2.out).below (Below.refl _ _).drew)
    have HKd := Lib.hid (HK2.out.below (Below.refl _ _).drew)
    have hS0 : (World.cell? w2.drew ⟨L.P, 1, none⟩ = some (.pointer (some ⟨L.mb, 0, none⟩)) ∧ World.cell? w2.drew ⟨L.mb, 0, none⟩ = some (.pointer (some ⟨L.S, 0, none⟩)) ∧ (World.cell? w2.drew ⟨kb, 0, none⟩ = some (.int .i64 k0) ∧ World.cell? w2.drew ⟨kb, 1, none⟩ = some (.int .i64 k1) ∧ World.cell? w2.drew ⟨kb, 2, none⟩ = some (.int .i64 k2) ∧ World.cell? w2.drew ⟨kb, 3, none⟩ = some (.int .i64 k3) ∧ World.cell? w2.drew ⟨kb, 4, none⟩ = some (.int .u32 k4))) := ⟨HW2.out.kk.f1, HW2.out.mm.m0, HKd.out.k5⟩
    refine wp_region_noPanic ?_
    refine wp_region_held_drew (S := fun w' => (World.cell? w' ⟨L.P, 1, none⟩ = some (.pointer (some ⟨L.mb, 0, none⟩)) ∧ World.cell? w' ⟨L.mb, 0, none⟩ = some (.pointer (some ⟨L.S, 0, none⟩)) ∧ (World.cell? w' ⟨kb, 0, none⟩ = some (.int .i64 k0) ∧ World.cell? w' ⟨kb, 1, none⟩ = some (.int .i64 k1) ∧ World.cell? w' ⟨kb, 2, none⟩ = some (.int .i64 k2) ∧ World.cell? w' ⟨kb, 3, none⟩ = some (.int .i64 k3) ∧ World.cell? w' ⟨kb, 4, none⟩ = some (.int .u32 k4)))) (by kernel_rfl) hS0 (fun hHeld => ?_)
    clear hS0
    refine wpAnyH_take (i := 0) (v := ?_) (by rfl) (by kernel_rfl) (by kernel_rfl) (by kernel_rfl) (fun _ _ _ h => h) (Or.inl ⟨by kernel_rfl, ?_⟩) (by assumption) ?_; rotate_left 1; (focus (intro w hSw; (try dsimp only at hSw); simp only [List.getElem_toArray, List.getElem_cons_succ, List.getElem_cons_zero]; all_goals go_simp; all_goals (try with_reducible rfl))); (try simp only [Act.put, List.getElem_toArray, List.getElem_cons_succ, List.getElem_cons_zero, List.setIfInBounds_toArray, List.set_cons_zero, List.set_cons_succ])
    refine wpAnyH_take (i := 1) (v := ?_) (by rfl) (by kernel_rfl) (by kernel_rfl) (by kernel_rfl) (fun _ _ _ h => h) (Or.inl ⟨by kernel_rfl, ?_⟩) (by assumption) ?_; rotate_left 1; (focus (intro w hSw; (try dsimp only at hSw); simp only [List.getElem_toArray, List.getElem_cons_succ, List.getElem_cons_zero]; all_goals go_simp; all_goals (try with_reducible rfl))); (try simp only [Act.put, List.getElem_toArray, List.getElem_cons_succ, List.getElem_cons_zero, List.setIfInBounds_toArray, List.set_cons_zero, List.set_cons_succ])
    refine wpAnyH_take (i := 2) (v := ?_) (by rfl) (by kernel_rfl) (by kernel_rfl) (by kernel_rfl) (fun _ _ _ h => h) (Or.inl ⟨by kernel_rfl, ?_⟩) (by assumption) ?_; rotate_left 1; (focus (intro w hSw; (try dsimp only at hSw); simp only [List.getElem_toArray, List.getElem_cons_succ, List.getElem_cons_zero]; all_goals go_simp; all_goals (try with_reducible rfl))); (try simp only [Act.put, List.getElem_toArray, List.getElem_cons_succ, List.getElem_cons_zero, List.setIfInBounds_toArray, List.set_cons_zero, List.set_cons_succ])
    refine wpAnyH_take (i := 3) (v := ?_) (by rfl) (by kernel_rfl) (by kernel_rfl) (by kernel_rfl) (fun _ _ _ h => h) (Or.inl ⟨by kernel_rfl, ?_⟩) (by assumption) ?_; rotate_left 1; (focus (intro w hSw; (try dsimp only at hSw); simp only [List.getElem_toArray, List.getElem_cons_succ, List.getElem_cons_zero]; all_goals go_simp; all_goals (try with_reducible rfl))); (try simp only [Act.put, List.getElem_toArray, List.getElem_cons_succ, List.getElem_cons_zero, List.setIfInBounds_toArray, List.set_cons_zero, List.set_cons_succ])
    refine wpAnyH_take (i := 4) (v := ?_) (by rfl) (by kernel_rfl) (by kernel_rfl) (by kernel_rfl) (fun _ _ _ h => h) (Or.inl ⟨by kernel_rfl, ?_⟩) (by assumption) ?_; rotate_left 1; (focus (intro w hSw; (try dsimp only at hSw); simp only [List.getElem_toArray, List.getElem_cons_succ, List.getElem_cons_zero]; all_goals go_simp; all_goals (try with_reducible rfl))); (try simp only [Act.put, List.getElem_toArray, List.getElem_cons_succ, List.getElem_cons_zero, List.setIfInBounds_toArray, List.set_cons_zero, List.set_cons_succ])
    refine wpAnyH_take (i := 5) (v := ?_) (by rfl) (by kernel_rfl) (by kernel_rfl) (by kernel_rfl) (fun _ _ _ h => h) (Or.inl ⟨by kernel_rfl, ?_⟩) (by assumption) ?_; rotate_left 1; (focus (intro w hSw; (try dsimp only at hSw); simp only [List.getElem_toArray, List.getElem_cons_succ, List.getElem_cons_zero]; all_goals go_simp; all_goals (try with_reducible rfl))); (try simp only [Act.put, List.getElem_toArray, List.getElem_cons_succ, List.getElem_cons_zero, List.setIfInBounds_toArray, List.set_cons_zero, List.set_cons_succ])
    refine wpAnyH_take (i := 6) (v := ?_) (by rfl) (by kernel_rfl) (by kernel_rfl) (by kernel_rfl) (fun _ _ _ h => h) (Or.inl ⟨by kernel_rfl, ?_⟩) (by assumption) ?_; rotate_left 1; (focus (intro w hSw; (try dsimp only at hSw); simp only [List.getElem_toArray, List.getElem_cons_succ, List.getElem_cons_zero]; all_goals go_simp; all_goals (try with_reducible rfl))); (try simp only [Act.put, List.getElem_toArray, List.getElem_cons_succ, List.getElem_cons_zero, List.setIfInBounds_toArray, List.set_cons_zero, List.set_cons_succ])
    refine wpAnyH_take (i := 7) (v := ?_) (by rfl) (by kernel_rfl) (by kernel_rfl) (by kernel_rfl) (fun _ _ _ h => h) (Or.inl ⟨by kernel_rfl, ?_⟩) (by assumption) ?_; rotate_left 1; (focus (intro w hSw; (try dsimp only at hSw); simp only [List.getElem_toArray, List.getElem_cons_succ, List.getElem_cons_zero]; all_goals go_simp; all_goals (try with_reducible rfl))); (try simp only [Act.put, List.getElem_toArray, List.getElem_cons_succ, List.getElem_cons_zero, List.setIfInBounds_toArray, List.set_cons_zero, List.set_cons_succ])
    refine wpAnyH_ready (rs := [8]) (by kernel_rfl) (by simp) ?_; refine AllReadyH.cons (by rfl) (fun K hK => ?_) AllReadyH.nil; rw [if_pos (by kernel_rfl)]; simp only [List.getElem_toArray, List.getElem_cons_succ, List.getElem_cons_zero]
    go_wp2_with (first
      | (go_at_call 45; (with_reducible refine (slive_is k0 k1 k2 k3 k4 t HT _ HW2.out.mm.sv.st).mono ?_); rintro e w3 ⟨rfl, hb⟩; have HW3 := Lib.hid (HW2.out.below hb); have HK3 := Lib.hid (HKd.out.below hb); have HB3 := Lib.hid hb; clear hb))
    refine hK.out _ _ ⟨HW3.out.kk.f1, HW3.out.mm.m0, HK3.out.k5⟩ (fun hHeld => ?_)
    clear hK K
    (try simp only [Act.put, List.getElem_toArray, List.getElem_cons_succ, List.getElem_cons_zero, List.setIfInBounds_toArray, List.set_cons_zero, List.set_cons_succ])
    refine wpAnyH_take (i := 9) (v := ?_) (by rfl) (by kernel_rfl) (by kernel_rfl) (by kernel_rfl) (fun _ _ _ h => h) (Or.inl ⟨by kernel_rfl, ?_⟩) (by assumption) ?_; rotate_left 1; (focus (intro w hSw; (try dsimp only at hSw); simp only [List.getElem_toArray, List.getElem_cons_succ, List.getElem_cons_zero]; all_goals go_simp; all_goals (try with_reducible rfl))); (try simp only [Act.put, List.getElem_toArray, List.getElem_cons_succ, List.getElem_cons_zero, List.setIfInBounds_toArray, List.set_cons_zero, List.set_cons_succ])
    refine wpAnyH_done (by kernel_rfl) ?_ _
    refine NoPanic.normal ?_
    go_wp2_with fail
    go_ret
    exact ⟨rfl, HB2.out.drew.trans (HB3.out.mono (by simpa using HB2.out.size))⟩
theorem btitles_is {w0 : World} {L : BLoc} {D : BSt} (k0 : Int) (G : Nat) (hk : k0 = 2 ∧ G = L.G1 ∨ k0 = 3 ∧ G = L.G2 ∨ ¬ k0 = 2 ∧ ¬ k0 = 3 ∧ G = L.G3) (w : World) (h : BW w0 w L D) :
    Calls Tryd.prog 62 #[.pointer (some ⟨L.P, 0, none⟩), .int .i64 k0] w fun e w' => e = .returned (.slice (some ⟨G, 0, none⟩) 256 256) ∧ w = w' := by
  have f4 := h.kk.f4
  have f5 := h.kk.f5
  have f6 := h.kk.f6
  clear h
  rcases hk with ⟨rfl, rfl⟩ | ⟨rfl, rfl⟩ | ⟨h2, h3, rfl⟩
  · go_enter Tryd.func62, Tryd.ntmps62
    go_wp2_with fail
    go_ret
    exact ⟨rfl, rfl⟩
  · go_enter Tryd.func62, Tryd.ntmps62
    go_wp2_with fail
    go_ret
    exact ⟨rfl, rfl⟩
  · have t2 : (k0 == 2) = false := by simpa using h2
    have t3 : (k0 == 3) = false := by simpa using h3
    clear h2 h3
    go_enter Tryd.func62, Tryd.ntmps62
    go_wp2_with fail
    go_ret
    exact ⟨rfl, rfl⟩
theorem bowner_dead {w0 : World} {L : BLoc} {D : BSt} (k0 k1 k2 k3 k4 : Int) (ht : Hid (liveK L D k0 k1 k2 = false)) (w : World) (h : BW w0 w L D) :
    Calls Tryd.prog 35 #[.pointer (some ⟨L.P, 0, none⟩), (Value.agg #[.int .i64 k0, .int .i64 k1, .int .i64 k2, .int .i64 k3, .int .u32 k4])] w fun e w' => e = .returned (.int .i64 (-1)) ∧ Below w.heap.size w w' := by
  have H := Lib.hid (fun o => h.below ((Below.refl _ _).alloc (Nat.le_refl _) _ : Below w.heap.size w (w.alloc o)))
  clear h
  go_enter Tryd.func35, Tryd.ntmps35
  go_wp2_with (first
    | (go_at_call 34; (with_reducible refine (blive_is k0 k1 k2 k3 k4 false ht _ (H.out _)).mono ?_); rintro e w3 ⟨rfl, hb⟩; have HB := Lib.hid hb; clear hb))
  go_ret
  exact ⟨rfl, ((Below.refl _ _).alloc (Nat.le_refl _) _ : Below w.heap.size w _).trans (HB.out.mono (by simp))⟩
end Go.Proofs.YtncopdhhchmpeaaDoor
namespace Go.Proofs.YtncopdhhchmpeaaDoor
open Go.ChangeShapes Go.WideShapes Go.ChangeAt Go.RowKit
set_option linter.unusedVariables false
set_option linter.unusedSimpArgs false
/-- A title among the titles of a kind. -/
structure TiAt (w : World) (L : BLoc) (k0 : Int) (G j : Nat) (x y : Int) : Prop where
  hk : k0 = 2 ∧ G = L.G1 ∨ k0 = 3 ∧ G = L.G2 ∨ ¬ k0 = 2 ∧ ¬ k0 = 3 ∧ G = L.G3
  lt : G < w.heap.size
  c0 : w.cell? ⟨G, j * 2, none⟩ = some (.int .i64 x)
  c1 : w.cell? ⟨G, j * 2 + 1, none⟩ = some (.int .i64 y)
theorem TiAt.below {w w' : World} {L : BLoc} {k0 : Int} {G j : Nat} {x y : Int} (h : TiAt w L k0 G j x y) (hb : Below w.heap.size w w') : TiAt w' L k0 G j x y :=
  ⟨h.hk, Nat.lt_of_lt_of_le h.lt hb.size, (hb.cell (p := ⟨G, j * 2, none⟩) h.lt).trans h.c0, (hb.cell (p := ⟨G, j * 2 + 1, none⟩) h.lt).trans h.c1⟩
theorem infoTitleV : (Tryd.prog.info? 149).map (·.size) = some 2 := by kernel_rfl
set_option maxRecDepth 100000 in
set_option maxHeartbeats 2000000 in
theorem bowner_live {w0 : World} {L : BLoc} {D : BSt} (k0 : Int) (k1 : Nat) (k2 k3 k4 : Int) (G q : Nat) (hj2 : k1 < 256) (hq : q < D.nb) (ht : Hid (liveK L D k0 k1 k2 = true)) (w : World) (h : BW w0 w L D) (hT : TiAt w L k0 G k1 q k2) :
    Calls Tryd.prog 35 #[.pointer (some ⟨L.P, 0, none⟩), (Value.agg #[.int .i64 k0, .int .i64 k1, .int .i64 k2, .int .i64 k3, .int .u32 k4])] w fun e w' => e = .returned (.int .i64 (q : Int)) ∧ Below w.heap.size w w' := by
  have H := Lib.hid h
  have HT := Lib.hid hT
  have HKk := Lib.hid hT.hk
  have hnb := h.nn
  have hn := h.n256
  have j0 : (0 : Int) ≤ k1 := by omega
  have j1 : (k1 : Int) < 256 := by omega
  clear h hT
  go_enter Tryd.func35, Tryd.ntmps35
  go_upto_region 1 with fail
  generalize hw2 : World.alloc w _ = w2
  have HB2 : Hid (Below w.heap.size w w2) := Lib.hid (by rw [← hw2]; exact (Below.refl _ _).alloc (Nat.le_refl _) _)
  obtain ⟨kb, hkb⟩ : ∃ kb, kb = w.heap.size := ⟨_, rfl⟩
  have HK2 : Hid (KeyC w2 kb (k0) (k1 : Int) k2 k3 k4) := Lib.hid (by rw [← hw2, hkb]; exact KeyC.new w k0 (k1 : Int) k2 k3 k4 _)
  rw [← hkb]
  clear hw2 hkb
  have HW2 := Lib.hid (H.out.below HB2.out)
  have q0 := HK2.out.c0
  have q1 := HK2.out.c1
  have q2 := HK2.out.c2
  have q3 := HK2.out.c3
  have q4 := HK2.out.c4
  go_upto_region 3 with (first
    | (go_at_call 34; (with_reducible refine (blive_is k0 (k1 : Int) k2 k3 k4 true ht _ HW2.out).mono ?_); rintro e w3 ⟨rfl, hb⟩; have HB3 := Lib.hid (HB2.out.trans (hb.mono HB2.out.size)); have HK3 := Lib.hid (HK2.out.below hb); have HW3 := Lib.hid (HW2.out.below hb); clear hb q0 q1 q2 q3 q4))
  obtain ⟨wD, hwD⟩ : ∃ wD, wD = w3.drew := ⟨_, rfl⟩
  have HBD : Hid (Below w3.heap.size w3 wD) := Lib.hid (by rw [hwD]; exact (Below.refl _ _).drew)
  have HKD := Lib.hid (HK3.out.below HBD.out)
  have HTD := Lib.hid (HT.out.below (HB3.out.trans (HBD.out.mono HB3.out.size)))
  have HWD := Lib.hid (HW3.out.below HBD.out)
  have HSO : Hid (∀ W, Below wD.heap.size wD W → ((World.cell? W ⟨kb, 0, none⟩ = some (.int .i64 k0) ∧ World.cell? W ⟨kb, 1, none⟩ = some (.int .i64 k1) ∧ World.cell? W ⟨kb, 2, none⟩ = some (.int .i64 k2) ∧ World.cell? W ⟨kb, 3, none⟩ = some (.int .i64 k3) ∧ World.cell? W ⟨kb, 4, none⟩ = some (.int .u32 k4)) ∧ World.cell? W ⟨G, k1 * 2, none⟩ = some (.int .i64 (q : Int)) ∧ World.cell? W ⟨G, k1 * 2 + 1, none⟩ = some (.int .i64 k2))) := Lib.hid (fun W hb => ⟨(HKD.out.below hb).k5, (HTD.out.below hb).c0, (HTD.out.below hb).c1⟩)
  refine wp_region_noPanic ?_
  refine wp_region_held_drew (S := fun w' => ((World.cell? w' ⟨kb, 0, none⟩ = some (.int .i64 k0) ∧ World.cell? w' ⟨kb, 1, none⟩ = some (.int .i64 k1) ∧ World.cell? w' ⟨kb, 2, none⟩ = some (.int .i64 k2) ∧ World.cell? w' ⟨kb, 3, none⟩ = some (.int .i64 k3) ∧ World.cell? w' ⟨kb, 4, none⟩ = some (.int .u32 k4)) ∧ World.cell? w' ⟨G, k1 * 2, none⟩ = some (.int .i64 (q : Int)) ∧ World.cell? w' ⟨G, k1 * 2 + 1, none⟩ = some (.int .i64 k2))) (by kernel_rfl) (by rw [← hwD]; exact HSO.out _ (Below.refl _ _)) (fun hHeld => ?_)
  rw [← hwD] at hHeld ⊢
  clear hwD
  refine wpAnyH_take (i := 0) (v := ?_) (by rfl) (by kernel_rfl) (by kernel_rfl) (by kernel_rfl) (fun _ _ _ h => h) (Or.inl ⟨by kernel_rfl, ?_⟩) (by assumption) ?_; rotate_left 1; (focus (intro w hSw; (try dsimp only at hSw); simp only [List.getElem_toArray, List.getElem_cons_succ, List.getElem_cons_zero]; all_goals go_simp; all_goals (try with_reducible rfl))); (try simp only [Act.put, List.getElem_toArray, List.getElem_cons_succ, List.getElem_cons_zero, List.setIfInBounds_toArray, List.set_cons_zero, List.set_cons_succ])
  refine wpAnyH_take (i := 1) (v := ?_) (by rfl) (by kernel_rfl) (by kernel_rfl) (by kernel_rfl) (fun _ _ _ h => h) (Or.inl ⟨by kernel_rfl, ?_⟩) (by assumption) ?_; rotate_left 1; (focus (intro w hSw; (try dsimp only at hSw); simp only [List.getElem_toArray, List.getElem_cons_succ, List.getElem_cons_zero]; all_goals go_simp; all_goals (try with_reducible rfl))); (try simp only [Act.put, List.getElem_toArray, List.getElem_cons_succ, List.getElem_cons_zero, List.setIfInBounds_toArray, List.set_cons_zero, List.set_cons_succ])
  refine wpAnyH_take (i := 2) (v := ?_) (by rfl) (by kernel_rfl) (by kernel_rfl) (by kernel_rfl) (fun _ _ _ h => h) (Or.inl ⟨by kernel_rfl, ?_⟩) (by assumption) ?_; rotate_left 1; (focus (intro w hSw; (try dsimp only at hSw); simp only [List.getElem_toArray, List.getElem_cons_succ, List.getElem_cons_zero]; all_goals go_simp; all_goals (try with_reducible rfl))); (try simp only [Act.put, List.getElem_toArray, List.getElem_cons_succ, List.getElem_cons_zero, List.setIfInBounds_toArray, List.set_cons_zero, List.set_cons_succ])
  refine wpAnyH_take (i := 4) (v := ?_) (by rfl) (by kernel_rfl) (by kernel_rfl) (by kernel_rfl) (fun _ _ _ h => h) (Or.inl ⟨by kernel_rfl, ?_⟩) (by assumption) ?_; rotate_left 1; (focus (intro w hSw; (try dsimp only at hSw); simp only [List.getElem_toArray, List.getElem_cons_succ, List.getElem_cons_zero]; all_goals go_simp; all_goals (try with_reducible rfl))); (try simp only [Act.put, List.getElem_toArray, List.getElem_cons_succ, List.getElem_cons_zero, List.setIfInBounds_toArray, List.set_cons_zero, List.set_cons_succ])
  refine wpAnyH_take (i := 5) (v := ?_) (by rfl) (by kernel_rfl) (by kernel_rfl) (by kernel_rfl) (fun _ _ _ h => h) (Or.inl ⟨by kernel_rfl, ?_⟩) (by assumption) ?_; rotate_left 1; (focus (intro w hSw; (try dsimp only at hSw); simp only [List.getElem_toArray, List.getElem_cons_succ, List.getElem_cons_zero]; all_goals go_simp; all_goals (try with_reducible rfl))); (try simp only [Act.put, List.getElem_toArray, List.getElem_cons_succ, List.getElem_cons_zero, List.setIfInBounds_toArray, List.set_cons_zero, List.set_cons_succ])
  refine wpAnyH_ready (rs := [3, 8]) (by kernel_rfl) (by simp) ?_
  refine AllReadyH.cons (by rfl) (fun K' hK => ?_) (AllReadyH.cons (by rfl) (fun K' hK => ?_) AllReadyH.nil)
  · rw [if_pos (by kernel_rfl)]; simp only [List.getElem_toArray, List.getElem_cons_succ, List.getElem_cons_zero]
    go_wp2_with (first
      | (go_at_call 62; (with_reducible refine (btitles_is k0 G HKk.out _ HWD.out).mono ?_); rintro e w5 ⟨rfl, rfl⟩))
    refine hK.out _ _ (HSO.out _ (Below.refl _ _)) (fun hHeld => ?_); clear hK; (try simp only [Act.put, List.getElem_toArray, List.getElem_cons_succ, List.getElem_cons_zero, List.setIfInBounds_toArray, List.set_cons_zero, List.set_cons_succ])
    refine wpAnyH_take (i := 6) (v := ?_) (by rfl) (by kernel_rfl) (by kernel_rfl) (by kernel_rfl) (fun _ _ _ h => h) (Or.inl ⟨by kernel_rfl, ?_⟩) (by assumption) ?_; rotate_left 1; (focus (intro w hSw; (try dsimp only at hSw); simp only [List.getElem_toArray, List.getElem_cons_succ, List.getElem_cons_zero]; all_goals go_simp; all_goals (try with_reducible rfl))); (try simp only [Act.put, List.getElem_toArray, List.getElem_cons_succ, List.getElem_cons_zero, List.setIfInBounds_toArray, List.set_cons_zero, List.set_cons_succ])
    refine wpAnyH_take (i := 7) (v := ?_) (by rfl) (by kernel_rfl) (by kernel_rfl) (by kernel_rfl) (fun _ _ _ h => h) (Or.inl ⟨by kernel_rfl, ?_⟩) (by assumption) ?_; rotate_left 1; (focus (intro w hSw; (try dsimp only at hSw); simp only [List.getElem_toArray, List.getElem_cons_succ, List.getElem_cons_zero]; all_goals go_simp; all_goals (try with_reducible rfl))); (try simp only [Act.put, List.getElem_toArray, List.getElem_cons_succ, List.getElem_cons_zero, List.setIfInBounds_toArray, List.set_cons_zero, List.set_cons_succ])
    refine wpAnyH_ready (rs := [8]) (by kernel_rfl) (by simp) ?_; refine AllReadyH.cons (by rfl) (fun K hK => ?_) AllReadyH.nil; rw [if_pos (by kernel_rfl)]; simp only [List.getElem_toArray, List.getElem_cons_succ, List.getElem_cons_zero]
    go_wp2_with fail
    refine hK.out _ _ (HSO.out _ ((Below.refl _ _).alloc (Nat.le_refl _) _)) (fun hHeld => ?_); clear hK; (try simp only [Act.put, List.getElem_toArray, List.getElem_cons_succ, List.getElem_cons_zero, List.setIfInBounds_toArray, List.set_cons_zero, List.set_cons_succ])
    refine wpAnyH_ready (rs := [9]) (by kernel_rfl) (by simp) ?_; refine AllReadyH.cons (by rfl) (fun K hK => ?_) AllReadyH.nil; rw [if_pos (by kernel_rfl)]; simp only [List.getElem_toArray, List.getElem_cons_succ, List.getElem_cons_zero]
    go_wp2_with fail
    refine hK.out _ _ (HSO.out _ ((Below.refl _ _).alloc (Nat.le_refl _) _)) (fun hHeld => ?_); clear hK; (try simp only [Act.put, List.getElem_toArray, List.getElem_cons_succ, List.getElem_cons_zero, List.setIfInBounds_toArray, List.set_cons_zero, List.set_cons_succ])
    clear hHeld
    refine wpAnyH_done (by kernel_rfl) ?_ _; refine NoPanic.normal ?_
    generalize hw7 : World.alloc wD _ = w7
    have HB7 : Hid (Below wD.heap.size wD w7) := Lib.hid (by rw [← hw7]; exact (Below.refl _ _).alloc (Nat.le_refl _) _); have HC7 : Hid (w7.cell? ⟨wD.heap.size, 0, none⟩ = some (.int .i64 (q : Int)) ∧ w7.cell? ⟨wD.heap.size, 1, none⟩ = some (.int .i64 k2)) := Lib.hid (by rw [← hw7]; simp); clear hw7; have HK7 := Lib.hid (HKD.out.below HB7.out); have HW7 := Lib.hid ((HWD.out.below HB7.out).below (Below.refl _ _).drew); have HA9 := Lib.hid (fun n => ((HWD.out.below HB7.out).below (below_drewN (Below.refl _ _) n)).kk.ar); obtain ⟨c0, c1⟩ := HC7.out; have q2 := HK7.out.c2; have f0 := HW7.out.kk.f0; have f9 := (HWD.out.below HB7.out).kk.f0; clear HC7; have hk2 : (k2 != k2) = false := (by simp); go_wp2_with fail; go_quiet ((go_at_call 32; exact kquiet_left (athere_in q (by omega) true (Lib.hid (thN_at hq)) _ (HA9.out _)))); go_wp2_with fail; go_ret; exact ⟨rfl, (HB3.out.trans (HBD.out.mono HB3.out.size)).trans ((below_drewN HB7.out _).mono (Nat.le_trans HB3.out.size HBD.out.size))⟩
  · rw [if_pos (by kernel_rfl)]; simp only [List.getElem_toArray, List.getElem_cons_succ, List.getElem_cons_zero]
    go_wp2_with fail
    refine hK.out _ _ (HSO.out _ ((Below.refl _ _).alloc (Nat.le_refl _) _)) (fun hHeld => ?_); clear hK; (try simp only [Act.put, List.getElem_toArray, List.getElem_cons_succ, List.getElem_cons_zero, List.setIfInBounds_toArray, List.set_cons_zero, List.set_cons_succ])
    refine wpAnyH_ready (rs := [3]) (by kernel_rfl) (by simp) ?_; refine AllReadyH.cons (by rfl) (fun K hK => ?_) AllReadyH.nil; rw [if_pos (by kernel_rfl)]; simp only [List.getElem_toArray, List.getElem_cons_succ, List.getElem_cons_zero]
    go_wp2_with (first
      | (go_at_call 62; (with_reducible refine (btitles_is k0 G HKk.out _ (HWD.out.below ((Below.refl _ _).alloc (Nat.le_refl _) _))).mono ?_); rintro e w5 ⟨rfl, rfl⟩))
    refine hK.out _ _ (HSO.out _ ((Below.refl _ _).alloc (Nat.le_refl _) _)) (fun hHeld => ?_); clear hK; (try simp only [Act.put, List.getElem_toArray, List.getElem_cons_succ, List.getElem_cons_zero, List.setIfInBounds_toArray, List.set_cons_zero, List.set_cons_succ])
    refine wpAnyH_take (i := 6) (v := ?_) (by rfl) (by kernel_rfl) (by kernel_rfl) (by kernel_rfl) (fun _ _ _ h => h) (Or.inl ⟨by kernel_rfl, ?_⟩) (by assumption) ?_; rotate_left 1; (focus (intro w hSw; (try dsimp only at hSw); simp only [List.getElem_toArray, List.getElem_cons_succ, List.getElem_cons_zero]; all_goals go_simp; all_goals (try with_reducible rfl))); (try simp only [Act.put, List.getElem_toArray, List.getElem_cons_succ, List.getElem_cons_zero, List.setIfInBounds_toArray, List.set_cons_zero, List.set_cons_succ])
    refine wpAnyH_take (i := 7) (v := ?_) (by rfl) (by kernel_rfl) (by kernel_rfl) (by kernel_rfl) (fun _ _ _ h => h) (Or.inl ⟨by kernel_rfl, ?_⟩) (by assumption) ?_; rotate_left 1; (focus (intro w hSw; (try dsimp only at hSw); simp only [List.getElem_toArray, List.getElem_cons_succ, List.getElem_cons_zero]; all_goals go_simp; all_goals (try with_reducible rfl))); (try simp only [Act.put, List.getElem_toArray, List.getElem_cons_succ, List.getElem_cons_zero, List.setIfInBounds_toArray, List.set_cons_zero, List.set_cons_succ])
    refine wpAnyH_ready (rs := [9]) (by kernel_rfl) (by simp) ?_; refine AllReadyH.cons (by rfl) (fun K hK => ?_) AllReadyH.nil; rw [if_pos (by kernel_rfl)]; simp only [List.getElem_toArray, List.getElem_cons_succ, List.getElem_cons_zero]
    go_wp2_with fail
    refine hK.out _ _ (HSO.out _ ((Below.refl _ _).alloc (Nat.le_refl _) _)) (fun hHeld => ?_); clear hK; (try simp only [Act.put, List.getElem_toArray, List.getElem_cons_succ, List.getElem_cons_zero, List.setIfInBounds_toArray, List.set_cons_zero, List.set_cons_succ])
    clear hHeld
    refine wpAnyH_done (by kernel_rfl) ?_ _; refine NoPanic.normal ?_
    generalize hw7 : World.alloc wD _ = w7
    have HB7 : Hid (Below wD.heap.size wD w7) := Lib.hid (by rw [← hw7]; exact (Below.refl _ _).alloc (Nat.le_refl _) _); have HC7 : Hid (w7.cell? ⟨wD.heap.size, 0, none⟩ = some (.int .i64 (q : Int)) ∧ w7.cell? ⟨wD.heap.size, 1, none⟩ = some (.int .i64 k2)) := Lib.hid (by rw [← hw7]; simp); clear hw7; have HK7 := Lib.hid (HKD.out.below HB7.out); have HW7 := Lib.hid ((HWD.out.below HB7.out).below (Below.refl _ _).drew); have HA9 := Lib.hid (fun n => ((HWD.out.below HB7.out).below (below_drewN (Below.refl _ _) n)).kk.ar); obtain ⟨c0, c1⟩ := HC7.out; have q2 := HK7.out.c2; have f0 := HW7.out.kk.f0; have f9 := (HWD.out.below HB7.out).kk.f0; clear HC7; have hk2 : (k2 != k2) = false := (by simp); go_wp2_with fail; go_quiet ((go_at_call 32; exact kquiet_left (athere_in q (by omega) true (Lib.hid (thN_at hq)) _ (HA9.out _)))); go_wp2_with fail; go_ret; exact ⟨rfl, (HB3.out.trans (HBD.out.mono HB3.out.size)).trans ((below_drewN HB7.out _).mono (Nat.le_trans HB3.out.size HBD.out.size))⟩
end Go.Proofs.YtncopdhhchmpeaaDoor
namespace Go.Proofs.YtncopdhhchmpeaaDoor
open Go.ChangeShapes Go.WideShapes Go.ChangeAt Go.RowKit
set_option linter.unusedVariables false
set_option linter.unusedSimpArgs false
set_option maxRecDepth 100000 in
theorem mgn_ok {w0 : World} {mb S : Nat} {a b : Shp} {N cb : Nat} {size : Int} {th : Nat → Bool} {vr_ : Nat → Int} {W : Nat → Nat → Value} {th2 : Nat → Bool} {vr2 : Nat → Int} {W2 : Nat → Nat → Int} {hits : Int} {v : Value} {E : List EW} (k : Nat) (hn : k < a.n) (ht : Hid (th k = true)) (u : Int) (hv : Hid (vr_ k = u)) (u0 : -1000000000 ≤ u) (u1 : u ≤ 1000000000) (w : World) (h : (MemAt w0 w mb S a b N cb size th vr_ W th2 vr2 W2 hits v E)) :
    Calls Tryd.prog 63 #[.pointer (some ⟨mb, 0, none⟩), .int .i64 (k : Int)] w fun e w' => e = .returned .nilIface ∧ MemAt w0 w' mb S a b N cb size (upd th k false) (upd vr_ k (u + 1)) W th2 vr2 W2 hits (.slice none 0 0) [] ∧ KeepM w w' N cb v := by
  have H := Lib.hid h
  have m0 := h.m0
  have s0 := h.sv.st.s0
  have f0 := h.sv.st.nd.f0
  clear h
  go_enter Tryd.func63, Tryd.ntmps63
  go_wp2_with (first
    | (go_at_call 83; (with_reducible refine (agive_ok _ H.out.sv.st.nd.ar k hn ht u hv u0 u1).mono ?_); rintro e w1 ⟨rfl, hA, hg⟩; have hb := PBelow.of (B := a.B) (G := a.G) hg (.inl rfl); have HF := Lib.hid (H.out.nodeC (H.out.sv.st.nd.turn hA hg) hb); have hmb := hb.2.2.2.2 mb H.out.ml (by have := H.out.mn; have := H.out.lo.n; omega) (by have := H.out.mn; have := H.out.lo.n; omega); have hcb := hb.2.2.2.2 cb H.out.ca.cl (by have := H.out.ca.nb; have := H.out.lo.n; omega) (by have := H.out.ca.nb; have := H.out.lo.n; omega); have HMB := Lib.hid hmb; have HCB := Lib.hid hcb; clear hA hg hb hmb hcb m0 s0 f0)
    | (go_at_call 82; (with_reducible refine (mgiven_ok mb cb v _ ((World.cell?_of_block (a := ⟨mb, 1, none⟩) HMB.out).trans H.out.m1) ((World.cell?_of_block (a := ⟨cb, 2, none⟩) HCB.out).trans H.out.ca.c2) ((World.frozen?_of_block (a := ⟨cb, 2, none⟩) HCB.out).trans (H.out.ca.fr 2))).mono ?_); rintro e w2 ⟨rfl, hw⟩; have HW := Lib.hid hw; clear hw))
  go_ret
  exact ⟨rfl, by rw [HW.out]; exact HF.out.1, by rw [HW.out]; exact HF.out.2⟩
set_option maxRecDepth 100000 in
theorem mgp_ok {w0 : World} {mb S : Nat} {a b : Shp} {N cb : Nat} {size : Int} {th : Nat → Bool} {vr_ : Nat → Int} {W : Nat → Nat → Value} {th2 : Nat → Bool} {vr2 : Nat → Int} {W2 : Nat → Nat → Int} {hits : Int} {v : Value} {E : List EW} (k : Nat) (hn : k < b.n) (ht : Hid (th2 k = true)) (u : Int) (hv : Hid (vr2 k = u)) (u0 : -1000000000 ≤ u) (u1 : u ≤ 1000000000) (w : World) (h : (MemAt w0 w mb S a b N cb size th vr_ W th2 vr2 W2 hits v E)) :
    Calls Tryd.prog 64 #[.pointer (some ⟨mb, 0, none⟩), .int .i64 (k : Int)] w fun e w' => e = .returned .nilIface ∧ MemAt w0 w' mb S a b N cb size th vr_ W (upd th2 k false) (upd vr2 k (u + 1)) W2 hits (.slice none 0 0) [] ∧ KeepM w w' N cb v := by
  have H := Lib.hid h
  have m0 := h.m0
  have s0 := h.sv.st.s1
  have f0 := h.sv.st.pg.f0
  clear h
  go_enter Tryd.func64, Tryd.ntmps64
  go_wp2_with (first
    | (go_at_call 83; (with_reducible refine (agive_ok _ H.out.sv.st.pg.ar k hn ht u hv u0 u1).mono ?_); rintro e w1 ⟨rfl, hA, hg⟩; have hb := PBelow.of (B := b.B) (G := b.G) hg (.inl rfl); have HF := Lib.hid (H.out.pageC (H.out.sv.st.pg.turn hA hg) hb); have hmb := hb.2.2.2.2 mb H.out.ml (by have := H.out.mn; have := H.out.lo.p; omega) (by have := H.out.mn; have := H.out.lo.p; omega); have hcb := hb.2.2.2.2 cb H.out.ca.cl (by have := H.out.ca.nb; have := H.out.lo.p; omega) (by have := H.out.ca.nb; have := H.out.lo.p; omega); have HMB := Lib.hid hmb; have HCB := Lib.hid hcb; clear hA hg hb hmb hcb m0 s0 f0)
    | (go_at_call 82; (with_reducible refine (mgiven_ok mb cb v _ ((World.cell?_of_block (a := ⟨mb, 1, none⟩) HMB.out).trans H.out.m1) ((World.cell?_of_block (a := ⟨cb, 2, none⟩) HCB.out).trans H.out.ca.c2) ((World.frozen?_of_block (a := ⟨cb, 2, none⟩) HCB.out).trans (H.out.ca.fr 2))).mono ?_); rintro e w2 ⟨rfl, hw⟩; have HW := Lib.hid hw; clear hw))
  go_ret
  exact ⟨rfl, by rw [HW.out]; exact HF.out.1, by rw [HW.out]; exact HF.out.2⟩
theorem BW.memC {w0 w w' : World} {L : BLoc} {D : BSt} (h : BW w0 w L D) {nt' : Nat → Bool} {nv' : Nat → Int} {pt' : Nat → Bool} {pv' : Nat → Int} (hm : MemAt w0 w' L.mb L.S L.a L.b L.N L.cb L.z nt' nv' D.nW pt' pv' D.pW 0 (.slice none 0 0) []) (hk : KeepM w w' L.N L.cb (.slice none 0 0)) : BW w0 w' L { D with nt := nt', nv := nv', pt := pt', pv := pv' } ∧ UpT L.T w w' := by
  have hmd := h.md
  have hdl := h.dl
  have htt := h.tt
  exact ⟨⟨hm, DsAt.same h.d hk.1 (fun k hk1 hk2 => hk.2 k (by omega) hk2 (by omega) (by simp [Value.ownBlock])), BkAt.same h.k hk.1 (fun k hk1 hk2 => hk.2 k (by omega) hk2 (by omega) (by simp [Value.ownBlock])), h.md, h.db, h.dl, h.pk, h.nn, h.tt, Nat.le_trans h.tw hk.1⟩, hk.1, fun k hk1 hk2 => hk.2 k (by omega) hk2 (by omega) (by simp [Value.ownBlock])⟩
theorem KeyC.upt {w w' : World} {T b : Nat} {k0 k1 k2 k3 k4 : Int} (h : KeyC w b k0 k1 k2 k3 k4) (hu : UpT T w w') (hb : T ≤ b) : KeyC w' b k0 k1 k2 k3 k4 := h.same' hu.1 (hu.2 b hb h.lt)
set_option maxRecDepth 100000 in
set_option maxHeartbeats 2000000 in
theorem bgb_node {w0 : World} {L : BLoc} {D : BSt} (k1 : Nat) (k2 k3 k4 : Int) (hj : k1 < 256) (hn : k1 < L.a.n) (ht : Hid (D.nt k1 = true)) (hv : Hid (D.nv k1 = k2)) (u0 : -1000000000 ≤ k2) (u1 : k2 ≤ 1000000000) (w : World) (h : BW w0 w L D) :
    Calls Tryd.prog 36 #[.pointer (some ⟨L.P, 0, none⟩), (Value.agg #[.int .i64 2, .int .i64 (k1 : Int), .int .i64 k2, .int .i64 k3, .int .u32 k4])] w fun e w' => e = .returned (.tuple #[]) ∧ BW w0 w' L { D with nt := upd D.nt k1 false, nv := upd D.nv k1 (k2 + 1), o1 := upd D.o1 k1 (-1), v1 := upd D.v1 k1 0 } ∧ UpT L.T w w' := by
  have H := Lib.hid h
  have HLT := Lib.hid h.lowT
  have HTT := Lib.hid h.tt
  have HTw := Lib.hid h.tw
  have j0 : (0 : Int) ≤ k1 := by omega
  have j1 : (k1 : Int) < 256 := by omega
  clear h
  go_enter Tryd.func36, Tryd.ntmps36
  go_upto_region 3 with fail
  generalize hw2 : World.alloc w _ = w2
  have HB2 : Hid (Below w.heap.size w w2) := Lib.hid (by rw [← hw2]; exact (Below.refl _ _).alloc (Nat.le_refl _) _)
  obtain ⟨kb, hkb⟩ : ∃ kb, kb = w.heap.size := ⟨_, rfl⟩
  have HK2 : Hid (KeyC w2 kb 2 (k1 : Int) k2 k3 k4) := Lib.hid (by rw [← hw2, hkb]; exact KeyC.new w 2 (k1 : Int) k2 k3 k4 _)
  have HKb : Hid (L.T ≤ kb) := Lib.hid (by rw [hkb]; exact HTw.out)
  rw [← hkb]
  clear hw2 hkb
  obtain ⟨k0, hk0⟩ : ∃ k0 : Int, Hid (k0 = 2) := ⟨_, Lib.hid rfl⟩
  obtain ⟨wD, hwD⟩ : ∃ wD, wD = w2.drew := ⟨_, rfl⟩
  have HBD : Hid (Below w2.heap.size w2 wD) := Lib.hid (by rw [hwD]; exact (Below.refl _ _).drew)
  have HWD := Lib.hid ((H.out.below HB2.out).below HBD.out)
  have HKD := Lib.hid (HK2.out.below HBD.out)
  refine wp_region_noPanic ?_
  refine wp_region_held_drew (S := fun w' => World.cell? w' ⟨L.P, 1, none⟩ = some (.pointer (some ⟨L.mb, 0, none⟩)) ∧ (World.cell? w' ⟨kb, 0, none⟩ = some (.int .i64 2) ∧ World.cell? w' ⟨kb, 1, none⟩ = some (.int .i64 (k1 : Int)) ∧ World.cell? w' ⟨kb, 2, none⟩ = some (.int .i64 k2) ∧ World.cell? w' ⟨kb, 3, none⟩ = some (.int .i64 k3) ∧ World.cell? w' ⟨kb, 4, none⟩ = some (.int .u32 k4))) (by kernel_rfl) (by rw [← hwD]; exact ⟨HWD.out.kk.f1, HKD.out.k5⟩) (fun hHeld => ?_)
  rw [← hwD] at hHeld ⊢
  clear hwD
  refine wpAnyH_take (i := 0) (v := ?_) (by rfl) (by kernel_rfl) (by kernel_rfl) (by kernel_rfl) (fun _ _ _ h => h) (Or.inl ⟨by kernel_rfl, ?_⟩) (by assumption) ?_; rotate_left 1; (focus (intro w hSw; (try dsimp only at hSw); simp only [List.getElem_toArray, List.getElem_cons_succ, List.getElem_cons_zero]; all_goals go_simp; all_goals (try with_reducible rfl))); (try simp only [Act.put, List.getElem_toArray, List.getElem_cons_succ, List.getElem_cons_zero, List.setIfInBounds_toArray, List.set_cons_zero, List.set_cons_succ])
  refine wpAnyH_take (i := 1) (v := ?_) (by rfl) (by kernel_rfl) (by kernel_rfl) (by kernel_rfl) (fun _ _ _ h => h) (Or.inl ⟨by kernel_rfl, ?_⟩) (by assumption) ?_; rotate_left 1; (focus (intro w hSw; (try dsimp only at hSw); simp only [List.getElem_toArray, List.getElem_cons_succ, List.getElem_cons_zero]; all_goals go_simp; all_goals (try with_reducible rfl))); (try simp only [Act.put, List.getElem_toArray, List.getElem_cons_succ, List.getElem_cons_zero, List.setIfInBounds_toArray, List.set_cons_zero, List.set_cons_succ])
  refine wpAnyH_take (i := 2) (v := ?_) (by rfl) (by kernel_rfl) (by kernel_rfl) (by kernel_rfl) (fun _ _ _ h => h) (Or.inl ⟨by kernel_rfl, ?_⟩) (by assumption) ?_; rotate_left 1; (focus (intro w hSw; (try dsimp only at hSw); simp only [List.getElem_toArray, List.getElem_cons_succ, List.getElem_cons_zero]; all_goals go_simp; all_goals (try with_reducible rfl))); (try simp only [Act.put, List.getElem_toArray, List.getElem_cons_succ, List.getElem_cons_zero, List.setIfInBounds_toArray, List.set_cons_zero, List.set_cons_succ])
  refine wpAnyH_take (i := 3) (v := ?_) (by rfl) (by kernel_rfl) (by kernel_rfl) (by kernel_rfl) (fun _ _ _ h => h) (Or.inl ⟨by kernel_rfl, ?_⟩) (by assumption) ?_; rotate_left 1; (focus (intro w hSw; (try dsimp only at hSw); simp only [List.getElem_toArray, List.getElem_cons_succ, List.getElem_cons_zero]; all_goals go_simp; all_goals (try with_reducible rfl))); (try simp only [Act.put, List.getElem_toArray, List.getElem_cons_succ, List.getElem_cons_zero, List.setIfInBounds_toArray, List.set_cons_zero, List.set_cons_succ])
  refine wpAnyH_take (i := 4) (v := ?_) (by rfl) (by kernel_rfl) (by kernel_rfl) (by kernel_rfl) (fun _ _ _ h => h) (Or.inl ⟨by kernel_rfl, ?_⟩) (by assumption) ?_; rotate_left 1; (focus (intro w hSw; (try dsimp only at hSw); simp only [List.getElem_toArray, List.getElem_cons_succ, List.getElem_cons_zero]; all_goals go_simp; all_goals (try with_reducible rfl))); (try simp only [Act.put, List.getElem_toArray, List.getElem_cons_succ, List.getElem_cons_zero, List.setIfInBounds_toArray, List.set_cons_zero, List.set_cons_succ])
  refine wpAnyH_take (i := 5) (v := ?_) (by rfl) (by kernel_rfl) (by kernel_rfl) (by kernel_rfl) (fun _ _ _ h => h) (Or.inl ⟨by kernel_rfl, ?_⟩) (by assumption) ?_; rotate_left 1; (focus (intro w hSw; (try dsimp only at hSw); simp only [List.getElem_toArray, List.getElem_cons_succ, List.getElem_cons_zero]; all_goals go_simp; all_goals (try with_reducible rfl))); (try simp only [Act.put, List.getElem_toArray, List.getElem_cons_succ, List.getElem_cons_zero, List.setIfInBounds_toArray, List.set_cons_zero, List.set_cons_succ])
  refine wpAnyH_ready (rs := [6]) (by kernel_rfl) (by simp) ?_; refine AllReadyH.cons (by rfl) (fun K hK => ?_) AllReadyH.nil; rw [if_pos (by kernel_rfl)]; simp only [List.getElem_toArray, List.getElem_cons_succ, List.getElem_cons_zero]
  go_wp2_with (first
    | (go_at_call 63; (with_reducible refine (mgn_ok k1 hn ht k2 hv u0 u1 _ HWD.out.mm).mono ?_); rintro e w3 ⟨rfl, hm, hkp⟩; have HN3 := Lib.hid (HWD.out.memC hm hkp); have HW3 := Lib.hid HN3.out.1; have HU3 := Lib.hid ((UpT.below (T := L.T) HBD.out).trans HN3.out.2); have HK3 := Lib.hid (HKD.out.upt HN3.out.2 HKb.out); clear hm hkp HN3))
  refine hK.out _ _ ⟨HW3.out.kk.f1, HK3.out.k5⟩ (fun hHeld => ?_)
  clear hK K hHeld
  (try simp only [Act.put, List.getElem_toArray, List.getElem_cons_succ, List.getElem_cons_zero, List.setIfInBounds_toArray, List.set_cons_zero, List.set_cons_succ])
  refine wpAnyH_done (by kernel_rfl) ?_ _
  refine NoPanic.normal ?_
  go_upto_region 8 with fail
  obtain ⟨wE, hwE⟩ : ∃ wE, wE = w3.drew := ⟨_, rfl⟩
  have HBE : Hid (Below w3.heap.size w3 wE) := Lib.hid (by rw [hwE]; exact (Below.refl _ _).drew)
  have HWE := Lib.hid (HW3.out.below HBE.out)
  have HKE := Lib.hid (HK3.out.below HBE.out)
  refine wp_region_noPanic ?_
  refine wp_region_held_drew (S := fun w' => (World.cell? w' ⟨kb, 0, none⟩ = some (.int .i64 2) ∧ World.cell? w' ⟨kb, 1, none⟩ = some (.int .i64 (k1 : Int)) ∧ World.cell? w' ⟨kb, 2, none⟩ = some (.int .i64 k2) ∧ World.cell? w' ⟨kb, 3, none⟩ = some (.int .i64 k3) ∧ World.cell? w' ⟨kb, 4, none⟩ = some (.int .u32 k4))) (by kernel_rfl) (by rw [← hwE]; exact HKE.out.k5) (fun hHeld => ?_)
  rw [← hwE] at hHeld ⊢
  clear hwE
  refine wpAnyH_take (i := 0) (v := ?_) (by rfl) (by kernel_rfl) (by kernel_rfl) (by kernel_rfl) (fun _ _ _ h => h) (Or.inl ⟨by kernel_rfl, ?_⟩) (by assumption) ?_; rotate_left 1; (focus (intro w hSw; (try dsimp only at hSw); simp only [List.getElem_toArray, List.getElem_cons_succ, List.getElem_cons_zero]; all_goals go_simp; all_goals (try with_reducible rfl))); (try simp only [Act.put, List.getElem_toArray, List.getElem_cons_succ, List.getElem_cons_zero, List.setIfInBounds_toArray, List.set_cons_zero, List.set_cons_succ])
  refine wpAnyH_take (i := 1) (v := ?_) (by rfl) (by kernel_rfl) (by kernel_rfl) (by kernel_rfl) (fun _ _ _ h => h) (Or.inl ⟨by kernel_rfl, ?_⟩) (by assumption) ?_; rotate_left 1; (focus (intro w hSw; (try dsimp only at hSw); simp only [List.getElem_toArray, List.getElem_cons_succ, List.getElem_cons_zero]; all_goals go_simp; all_goals (try with_reducible rfl))); (try simp only [Act.put, List.getElem_toArray, List.getElem_cons_succ, List.getElem_cons_zero, List.setIfInBounds_toArray, List.set_cons_zero, List.set_cons_succ])
  refine wpAnyH_take (i := 2) (v := ?_) (by rfl) (by kernel_rfl) (by kernel_rfl) (by kernel_rfl) (fun _ _ _ h => h) (Or.inl ⟨by kernel_rfl, ?_⟩) (by assumption) ?_; rotate_left 1; (focus (intro w hSw; (try dsimp only at hSw); simp only [List.getElem_toArray, List.getElem_cons_succ, List.getElem_cons_zero]; all_goals go_simp; all_goals (try with_reducible rfl))); (try simp only [Act.put, List.getElem_toArray, List.getElem_cons_succ, List.getElem_cons_zero, List.setIfInBounds_toArray, List.set_cons_zero, List.set_cons_succ])
  refine wpAnyH_take (i := 4) (v := ?_) (by rfl) (by kernel_rfl) (by kernel_rfl) (by kernel_rfl) (fun _ _ _ h => h) (Or.inl ⟨by kernel_rfl, ?_⟩) (by assumption) ?_; rotate_left 1; (focus (intro w hSw; (try dsimp only at hSw); simp only [List.getElem_toArray, List.getElem_cons_succ, List.getElem_cons_zero]; all_goals go_simp; all_goals (try with_reducible rfl))); (try simp only [Act.put, List.getElem_toArray, List.getElem_cons_succ, List.getElem_cons_zero, List.setIfInBounds_toArray, List.set_cons_zero, List.set_cons_succ])
  refine wpAnyH_take (i := 5) (v := ?_) (by rfl) (by kernel_rfl) (by kernel_rfl) (by kernel_rfl) (fun _ _ _ h => h) (Or.inl ⟨by kernel_rfl, ?_⟩) (by assumption) ?_; rotate_left 1; (focus (intro w hSw; (try dsimp only at hSw); simp only [List.getElem_toArray, List.getElem_cons_succ, List.getElem_cons_zero]; all_goals go_simp; all_goals (try with_reducible rfl))); (try simp only [Act.put, List.getElem_toArray, List.getElem_cons_succ, List.getElem_cons_zero, List.setIfInBounds_toArray, List.set_cons_zero, List.set_cons_succ])
  refine wpAnyH_take (i := 6) (v := ?_) (by rfl) (by kernel_rfl) (by kernel_rfl) (by kernel_rfl) (fun _ _ _ h => h) (Or.inl ⟨by kernel_rfl, ?_⟩) (by assumption) ?_; rotate_left 1; (focus (intro w hSw; (try dsimp only at hSw); simp only [List.getElem_toArray, List.getElem_cons_succ, List.getElem_cons_zero]; all_goals go_simp; all_goals (try with_reducible rfl))); (try simp only [Act.put, List.getElem_toArray, List.getElem_cons_succ, List.getElem_cons_zero, List.setIfInBounds_toArray, List.set_cons_zero, List.set_cons_succ])
  refine wpAnyH_ready (rs := [3]) (by kernel_rfl) (by simp) ?_; refine AllReadyH.cons (by rfl) (fun K hK => ?_) AllReadyH.nil; rw [if_pos (by kernel_rfl)]; simp only [List.getElem_toArray, List.getElem_cons_succ, List.getElem_cons_zero]
  go_wp2_with (first
    | (go_at_call 62; (with_reducible refine (btitles_is 2 L.G1 (.inl ⟨rfl, rfl⟩) _ HWE.out).mono ?_); rintro e w5 ⟨rfl, rfl⟩))
  refine hK.out _ _ HKE.out.k5 (fun hHeld => ?_)
  clear hK K
  (try simp only [Act.put, List.getElem_toArray, List.getElem_cons_succ, List.getElem_cons_zero, List.setIfInBounds_toArray, List.set_cons_zero, List.set_cons_succ])
  refine wpAnyH_take (i := 7) (v := ?_) (by rfl) (by kernel_rfl) (by kernel_rfl) (by kernel_rfl) (fun _ _ _ h => h) (Or.inl ⟨by kernel_rfl, ?_⟩) (by assumption) ?_; rotate_left 1; (focus (intro w hSw; (try dsimp only at hSw); simp only [List.getElem_toArray, List.getElem_cons_succ, List.getElem_cons_zero]; all_goals go_simp; all_goals (try with_reducible rfl))); (try simp only [Act.put, List.getElem_toArray, List.getElem_cons_succ, List.getElem_cons_zero, List.setIfInBounds_toArray, List.set_cons_zero, List.set_cons_succ])
  refine wpAnyH_ready (rs := [8]) (by kernel_rfl) (by simp) ?_; refine AllReadyH.cons (by rfl) (fun K hK => ?_) AllReadyH.nil; rw [if_pos (by kernel_rfl)]; simp only [List.getElem_toArray, List.getElem_cons_succ, List.getElem_cons_zero]
  have hti := HWE.out.kk.t1.ti k1 hj
  obtain ⟨c0, c1⟩ := hti
  have z0 := HWE.out.kk.t1.fr (k1 * 2)
  have z1 := HWE.out.kk.t1.fr (k1 * 2 + 1)
  have HS := Lib.hid (HWE.out.kk.t1.title k1 hj (-1) 0)
  have H4 := Lib.hid (HWE.out.kk.ti1 HS.out.1 HS.out.2)
  have HUS := Lib.hid (UpT.grown (T := L.T) HS.out.2 (by have := HTT.out; omega))
  have HKF := Lib.hid (HKE.out.upt HUS.out HKb.out)
  go_wp2_with fail
  refine hK.out _ _ HKF.out.k5 (fun hHeld => ?_)
  clear hK K hHeld
  (try simp only [Act.put, List.getElem_toArray, List.getElem_cons_succ, List.getElem_cons_zero, List.setIfInBounds_toArray, List.set_cons_zero, List.set_cons_succ])
  refine wpAnyH_done (by kernel_rfl) ?_ _
  refine NoPanic.normal ?_
  go_wp2_with fail
  go_end0
  refine ⟨rfl, ?_, (((UpT.below HB2.out).trans HU3.out).trans (UpT.below HBE.out)).trans HUS.out⟩
  exact BW.bank HWE.out (D' := { D with nt := upd D.nt k1 false, nv := upd D.nv k1 (k2 + 1), o1 := upd D.o1 k1 (-1), v1 := upd D.v1 k1 0 }) H4.out (low_of HS.out.2 HWE.out.kk.t1.lt.1 HWE.out.bl) rfl H.out.pk H.out.nn
set_option maxRecDepth 100000 in
set_option maxHeartbeats 2000000 in
theorem bgb_page {w0 : World} {L : BLoc} {D : BSt} (k1 : Nat) (k2 k3 k4 : Int) (hj : k1 < 256) (hn : k1 < L.b.n) (ht : Hid (D.pt k1 = true)) (hv : Hid (D.pv k1 = k2)) (u0 : -1000000000 ≤ k2) (u1 : k2 ≤ 1000000000) (w : World) (h : BW w0 w L D) :
    Calls Tryd.prog 36 #[.pointer (some ⟨L.P, 0, none⟩), (Value.agg #[.int .i64 3, .int .i64 (k1 : Int), .int .i64 k2, .int .i64 k3, .int .u32 k4])] w fun e w' => e = .returned (.tuple #[]) ∧ BW w0 w' L { D with pt := upd D.pt k1 false, pv := upd D.pv k1 (k2 + 1), o2 := upd D.o2 k1 (-1), v2 := upd D.v2 k1 0 } ∧ UpT L.T w w' := by
  have H := Lib.hid h
  have HLT := Lib.hid h.lowT
  have HTT := Lib.hid h.tt
  have HTw := Lib.hid h.tw
  have j0 : (0 : Int) ≤ k1 := by omega
  have j1 : (k1 : Int) < 256 := by omega
  clear h
  go_enter Tryd.func36, Tryd.ntmps36
  go_upto_region 5 with fail
  generalize hw2 : World.alloc w _ = w2
  have HB2 : Hid (Below w.heap.size w w2) := Lib.hid (by rw [← hw2]; exact (Below.refl _ _).alloc (Nat.le_refl _) _)
  obtain ⟨kb, hkb⟩ : ∃ kb, kb = w.heap.size := ⟨_, rfl⟩
  have HK2 : Hid (KeyC w2 kb 3 (k1 : Int) k2 k3 k4) := Lib.hid (by rw [← hw2, hkb]; exact KeyC.new w 3 (k1 : Int) k2 k3 k4 _)
  have HKb : Hid (L.T ≤ kb) := Lib.hid (by rw [hkb]; exact HTw.out)
  rw [← hkb]
  clear hw2 hkb
  obtain ⟨k0, hk0⟩ : ∃ k0 : Int, Hid (k0 = 3) := ⟨_, Lib.hid rfl⟩
  obtain ⟨wD, hwD⟩ : ∃ wD, wD = w2.drew := ⟨_, rfl⟩
  have HBD : Hid (Below w2.heap.size w2 wD) := Lib.hid (by rw [hwD]; exact (Below.refl _ _).drew)
  have HWD := Lib.hid ((H.out.below HB2.out).below HBD.out)
  have HKD := Lib.hid (HK2.out.below HBD.out)
  refine wp_region_noPanic ?_
  refine wp_region_held_drew (S := fun w' => World.cell? w' ⟨L.P, 1, none⟩ = some (.pointer (some ⟨L.mb, 0, none⟩)) ∧ (World.cell? w' ⟨kb, 0, none⟩ = some (.int .i64 3) ∧ World.cell? w' ⟨kb, 1, none⟩ = some (.int .i64 (k1 : Int)) ∧ World.cell? w' ⟨kb, 2, none⟩ = some (.int .i64 k2) ∧ World.cell? w' ⟨kb, 3, none⟩ = some (.int .i64 k3) ∧ World.cell? w' ⟨kb, 4, none⟩ = some (.int .u32 k4))) (by kernel_rfl) (by rw [← hwD]; exact ⟨HWD.out.kk.f1, HKD.out.k5⟩) (fun hHeld => ?_)
  rw [← hwD] at hHeld ⊢
  clear hwD
  refine wpAnyH_take (i := 0) (v := ?_) (by rfl) (by kernel_rfl) (by kernel_rfl) (by kernel_rfl) (fun _ _ _ h => h) (Or.inl ⟨by kernel_rfl, ?_⟩) (by assumption) ?_; rotate_left 1; (focus (intro w hSw; (try dsimp only at hSw); simp only [List.getElem_toArray, List.getElem_cons_succ, List.getElem_cons_zero]; all_goals go_simp; all_goals (try with_reducible rfl))); (try simp only [Act.put, List.getElem_toArray, List.getElem_cons_succ, List.getElem_cons_zero, List.setIfInBounds_toArray, List.set_cons_zero, List.set_cons_succ])
  refine wpAnyH_take (i := 1) (v := ?_) (by rfl) (by kernel_rfl) (by kernel_rfl) (by kernel_rfl) (fun _ _ _ h => h) (Or.inl ⟨by kernel_rfl, ?_⟩) (by assumption) ?_; rotate_left 1; (focus (intro w hSw; (try dsimp only at hSw); simp only [List.getElem_toArray, List.getElem_cons_succ, List.getElem_cons_zero]; all_goals go_simp; all_goals (try with_reducible rfl))); (try simp only [Act.put, List.getElem_toArray, List.getElem_cons_succ, List.getElem_cons_zero, List.setIfInBounds_toArray, List.set_cons_zero, List.set_cons_succ])
  refine wpAnyH_take (i := 2) (v := ?_) (by rfl) (by kernel_rfl) (by kernel_rfl) (by kernel_rfl) (fun _ _ _ h => h) (Or.inl ⟨by kernel_rfl, ?_⟩) (by assumption) ?_; rotate_left 1; (focus (intro w hSw; (try dsimp only at hSw); simp only [List.getElem_toArray, List.getElem_cons_succ, List.getElem_cons_zero]; all_goals go_simp; all_goals (try with_reducible rfl))); (try simp only [Act.put, List.getElem_toArray, List.getElem_cons_succ, List.getElem_cons_zero, List.setIfInBounds_toArray, List.set_cons_zero, List.set_cons_succ])
  refine wpAnyH_take (i := 3) (v := ?_) (by rfl) (by kernel_rfl) (by kernel_rfl) (by kernel_rfl) (fun _ _ _ h => h) (Or.inl ⟨by kernel_rfl, ?_⟩) (by assumption) ?_; rotate_left 1; (focus (intro w hSw; (try dsimp only at hSw); simp only [List.getElem_toArray, List.getElem_cons_succ, List.getElem_cons_zero]; all_goals go_simp; all_goals (try with_reducible rfl))); (try simp only [Act.put, List.getElem_toArray, List.getElem_cons_succ, List.getElem_cons_zero, List.setIfInBounds_toArray, List.set_cons_zero, List.set_cons_succ])
  refine wpAnyH_take (i := 4) (v := ?_) (by rfl) (by kernel_rfl) (by kernel_rfl) (by kernel_rfl) (fun _ _ _ h => h) (Or.inl ⟨by kernel_rfl, ?_⟩) (by assumption) ?_; rotate_left 1; (focus (intro w hSw; (try dsimp only at hSw); simp only [List.getElem_toArray, List.getElem_cons_succ, List.getElem_cons_zero]; all_goals go_simp; all_goals (try with_reducible rfl))); (try simp only [Act.put, List.getElem_toArray, List.getElem_cons_succ, List.getElem_cons_zero, List.setIfInBounds_toArray, List.set_cons_zero, List.set_cons_succ])
  refine wpAnyH_take (i := 5) (v := ?_) (by rfl) (by kernel_rfl) (by kernel_rfl) (by kernel_rfl) (fun _ _ _ h => h) (Or.inl ⟨by kernel_rfl, ?_⟩) (by assumption) ?_; rotate_left 1; (focus (intro w hSw; (try dsimp only at hSw); simp only [List.getElem_toArray, List.getElem_cons_succ, List.getElem_cons_zero]; all_goals go_simp; all_goals (try with_reducible rfl))); (try simp only [Act.put, List.getElem_toArray, List.getElem_cons_succ, List.getElem_cons_zero, List.setIfInBounds_toArray, List.set_cons_zero, List.set_cons_succ])
  refine wpAnyH_ready (rs := [6]) (by kernel_rfl) (by simp) ?_; refine AllReadyH.cons (by rfl) (fun K hK => ?_) AllReadyH.nil; rw [if_pos (by kernel_rfl)]; simp only [List.getElem_toArray, List.getElem_cons_succ, List.getElem_cons_zero]
  go_wp2_with (first
    | (go_at_call 64; (with_reducible refine (mgp_ok k1 hn ht k2 hv u0 u1 _ HWD.out.mm).mono ?_); rintro e w3 ⟨rfl, hm, hkp⟩; have HN3 := Lib.hid (HWD.out.memC hm hkp); have HW3 := Lib.hid HN3.out.1; have HU3 := Lib.hid ((UpT.below (T := L.T) HBD.out).trans HN3.out.2); have HK3 := Lib.hid (HKD.out.upt HN3.out.2 HKb.out); clear hm hkp HN3))
  refine hK.out _ _ ⟨HW3.out.kk.f1, HK3.out.k5⟩ (fun hHeld => ?_)
  clear hK K hHeld
  (try simp only [Act.put, List.getElem_toArray, List.getElem_cons_succ, List.getElem_cons_zero, List.setIfInBounds_toArray, List.set_cons_zero, List.set_cons_succ])
  refine wpAnyH_done (by kernel_rfl) ?_ _
  refine NoPanic.normal ?_
  go_upto_region 8 with fail
  obtain ⟨wE, hwE⟩ : ∃ wE, wE = w3.drew := ⟨_, rfl⟩
  have HBE : Hid (Below w3.heap.size w3 wE) := Lib.hid (by rw [hwE]; exact (Below.refl _ _).drew)
  have HWE := Lib.hid (HW3.out.below HBE.out)
  have HKE := Lib.hid (HK3.out.below HBE.out)
  refine wp_region_noPanic ?_
  refine wp_region_held_drew (S := fun w' => (World.cell? w' ⟨kb, 0, none⟩ = some (.int .i64 3) ∧ World.cell? w' ⟨kb, 1, none⟩ = some (.int .i64 (k1 : Int)) ∧ World.cell? w' ⟨kb, 2, none⟩ = some (.int .i64 k2) ∧ World.cell? w' ⟨kb, 3, none⟩ = some (.int .i64 k3) ∧ World.cell? w' ⟨kb, 4, none⟩ = some (.int .u32 k4))) (by kernel_rfl) (by rw [← hwE]; exact HKE.out.k5) (fun hHeld => ?_)
  rw [← hwE] at hHeld ⊢
  clear hwE
  refine wpAnyH_take (i := 0) (v := ?_) (by rfl) (by kernel_rfl) (by kernel_rfl) (by kernel_rfl) (fun _ _ _ h => h) (Or.inl ⟨by kernel_rfl, ?_⟩) (by assumption) ?_; rotate_left 1; (focus (intro w hSw; (try dsimp only at hSw); simp only [List.getElem_toArray, List.getElem_cons_succ, List.getElem_cons_zero]; all_goals go_simp; all_goals (try with_reducible rfl))); (try simp only [Act.put, List.getElem_toArray, List.getElem_cons_succ, List.getElem_cons_zero, List.setIfInBounds_toArray, List.set_cons_zero, List.set_cons_succ])
  refine wpAnyH_take (i := 1) (v := ?_) (by rfl) (by kernel_rfl) (by kernel_rfl) (by kernel_rfl) (fun _ _ _ h => h) (Or.inl ⟨by kernel_rfl, ?_⟩) (by assumption) ?_; rotate_left 1; (focus (intro w hSw; (try dsimp only at hSw); simp only [List.getElem_toArray, List.getElem_cons_succ, List.getElem_cons_zero]; all_goals go_simp; all_goals (try with_reducible rfl))); (try simp only [Act.put, List.getElem_toArray, List.getElem_cons_succ, List.getElem_cons_zero, List.setIfInBounds_toArray, List.set_cons_zero, List.set_cons_succ])
  refine wpAnyH_take (i := 2) (v := ?_) (by rfl) (by kernel_rfl) (by kernel_rfl) (by kernel_rfl) (fun _ _ _ h => h) (Or.inl ⟨by kernel_rfl, ?_⟩) (by assumption) ?_; rotate_left 1; (focus (intro w hSw; (try dsimp only at hSw); simp only [List.getElem_toArray, List.getElem_cons_succ, List.getElem_cons_zero]; all_goals go_simp; all_goals (try with_reducible rfl))); (try simp only [Act.put, List.getElem_toArray, List.getElem_cons_succ, List.getElem_cons_zero, List.setIfInBounds_toArray, List.set_cons_zero, List.set_cons_succ])
  refine wpAnyH_take (i := 4) (v := ?_) (by rfl) (by kernel_rfl) (by kernel_rfl) (by kernel_rfl) (fun _ _ _ h => h) (Or.inl ⟨by kernel_rfl, ?_⟩) (by assumption) ?_; rotate_left 1; (focus (intro w hSw; (try dsimp only at hSw); simp only [List.getElem_toArray, List.getElem_cons_succ, List.getElem_cons_zero]; all_goals go_simp; all_goals (try with_reducible rfl))); (try simp only [Act.put, List.getElem_toArray, List.getElem_cons_succ, List.getElem_cons_zero, List.setIfInBounds_toArray, List.set_cons_zero, List.set_cons_succ])
  refine wpAnyH_take (i := 5) (v := ?_) (by rfl) (by kernel_rfl) (by kernel_rfl) (by kernel_rfl) (fun _ _ _ h => h) (Or.inl ⟨by kernel_rfl, ?_⟩) (by assumption) ?_; rotate_left 1; (focus (intro w hSw; (try dsimp only at hSw); simp only [List.getElem_toArray, List.getElem_cons_succ, List.getElem_cons_zero]; all_goals go_simp; all_goals (try with_reducible rfl))); (try simp only [Act.put, List.getElem_toArray, List.getElem_cons_succ, List.getElem_cons_zero, List.setIfInBounds_toArray, List.set_cons_zero, List.set_cons_succ])
  refine wpAnyH_take (i := 6) (v := ?_) (by rfl) (by kernel_rfl) (by kernel_rfl) (by kernel_rfl) (fun _ _ _ h => h) (Or.inl ⟨by kernel_rfl, ?_⟩) (by assumption) ?_; rotate_left 1; (focus (intro w hSw; (try dsimp only at hSw); simp only [List.getElem_toArray, List.getElem_cons_succ, List.getElem_cons_zero]; all_goals go_simp; all_goals (try with_reducible rfl))); (try simp only [Act.put, List.getElem_toArray, List.getElem_cons_succ, List.getElem_cons_zero, List.setIfInBounds_toArray, List.set_cons_zero, List.set_cons_succ])
  refine wpAnyH_ready (rs := [3]) (by kernel_rfl) (by simp) ?_; refine AllReadyH.cons (by rfl) (fun K hK => ?_) AllReadyH.nil; rw [if_pos (by kernel_rfl)]; simp only [List.getElem_toArray, List.getElem_cons_succ, List.getElem_cons_zero]
  go_wp2_with (first
    | (go_at_call 62; (with_reducible refine (btitles_is 3 L.G2 (.inr (.inl ⟨rfl, rfl⟩)) _ HWE.out).mono ?_); rintro e w5 ⟨rfl, rfl⟩))
  refine hK.out _ _ HKE.out.k5 (fun hHeld => ?_)
  clear hK K
  (try simp only [Act.put, List.getElem_toArray, List.getElem_cons_succ, List.getElem_cons_zero, List.setIfInBounds_toArray, List.set_cons_zero, List.set_cons_succ])
  refine wpAnyH_take (i := 7) (v := ?_) (by rfl) (by kernel_rfl) (by kernel_rfl) (by kernel_rfl) (fun _ _ _ h => h) (Or.inl ⟨by kernel_rfl, ?_⟩) (by assumption) ?_; rotate_left 1; (focus (intro w hSw; (try dsimp only at hSw); simp only [List.getElem_toArray, List.getElem_cons_succ, List.getElem_cons_zero]; all_goals go_simp; all_goals (try with_reducible rfl))); (try simp only [Act.put, List.getElem_toArray, List.getElem_cons_succ, List.getElem_cons_zero, List.setIfInBounds_toArray, List.set_cons_zero, List.set_cons_succ])
  refine wpAnyH_ready (rs := [8]) (by kernel_rfl) (by simp) ?_; refine AllReadyH.cons (by rfl) (fun K hK => ?_) AllReadyH.nil; rw [if_pos (by kernel_rfl)]; simp only [List.getElem_toArray, List.getElem_cons_succ, List.getElem_cons_zero]
  have hti := HWE.out.kk.t2.ti k1 hj
  obtain ⟨c0, c1⟩ := hti
  have z0 := HWE.out.kk.t2.fr (k1 * 2)
  have z1 := HWE.out.kk.t2.fr (k1 * 2 + 1)
  have HS := Lib.hid (HWE.out.kk.t2.title k1 hj (-1) 0)
  have H4 := Lib.hid (HWE.out.kk.ti2 HS.out.1 HS.out.2)
  have HUS := Lib.hid (UpT.grown (T := L.T) HS.out.2 (by have := HTT.out; omega))
  have HKF := Lib.hid (HKE.out.upt HUS.out HKb.out)
  go_wp2_with fail
  refine hK.out _ _ HKF.out.k5 (fun hHeld => ?_)
  clear hK K hHeld
  (try simp only [Act.put, List.getElem_toArray, List.getElem_cons_succ, List.getElem_cons_zero, List.setIfInBounds_toArray, List.set_cons_zero, List.set_cons_succ])
  refine wpAnyH_done (by kernel_rfl) ?_ _
  refine NoPanic.normal ?_
  go_wp2_with fail
  go_end0
  refine ⟨rfl, ?_, (((UpT.below HB2.out).trans HU3.out).trans (UpT.below HBE.out)).trans HUS.out⟩
  exact BW.bank HWE.out (D' := { D with pt := upd D.pt k1 false, pv := upd D.pv k1 (k2 + 1), o2 := upd D.o2 k1 (-1), v2 := upd D.v2 k1 0 }) H4.out (low_of HS.out.2 HWE.out.kk.t2.lt.1 HWE.out.bl) rfl H.out.pk H.out.nn
set_option maxRecDepth 100000 in
set_option maxHeartbeats 2000000 in
theorem bgb_dom {w0 : World} {L : BLoc} {D : BSt} (k1 : Nat) (k2 k3 k4 : Int) (hj : k1 < 256) (hn : k1 < L.dn) (ht : Hid (D.dt k1 = true)) (hv : Hid (D.dv k1 = k2)) (u0 : -1000000000 ≤ k2) (u1 : k2 ≤ 1000000000) (w : World) (h : BW w0 w L D) :
    Calls Tryd.prog 36 #[.pointer (some ⟨L.P, 0, none⟩), (Value.agg #[.int .i64 4, .int .i64 (k1 : Int), .int .i64 k2, .int .i64 k3, .int .u32 k4])] w fun e w' => e = .returned (.tuple #[]) ∧ BW w0 w' L { D with dt := upd D.dt k1 false, dv := upd D.dv k1 (k2 + 1), o3 := upd D.o3 k1 (-1), v3 := upd D.v3 k1 0 } ∧ UpT L.T w w' := by
  have H := Lib.hid h
  have HLT := Lib.hid h.lowT
  have HTT := Lib.hid h.tt
  have HTw := Lib.hid h.tw
  have j0 : (0 : Int) ≤ k1 := by omega
  have j1 : (k1 : Int) < 256 := by omega
  clear h
  go_enter Tryd.func36, Tryd.ntmps36
  go_upto_region 7 with fail
  generalize hw2 : World.alloc w _ = w2
  have HB2 : Hid (Below w.heap.size w w2) := Lib.hid (by rw [← hw2]; exact (Below.refl _ _).alloc (Nat.le_refl _) _)
  obtain ⟨kb, hkb⟩ : ∃ kb, kb = w.heap.size := ⟨_, rfl⟩
  have HK2 : Hid (KeyC w2 kb 4 (k1 : Int) k2 k3 k4) := Lib.hid (by rw [← hw2, hkb]; exact KeyC.new w 4 (k1 : Int) k2 k3 k4 _)
  have HKb : Hid (L.T ≤ kb) := Lib.hid (by rw [hkb]; exact HTw.out)
  rw [← hkb]
  clear hw2 hkb
  obtain ⟨k0, hk0⟩ : ∃ k0 : Int, Hid (k0 = 4) := ⟨_, Lib.hid rfl⟩
  obtain ⟨wD, hwD⟩ : ∃ wD, wD = w2.drew := ⟨_, rfl⟩
  have HBD : Hid (Below w2.heap.size w2 wD) := Lib.hid (by rw [hwD]; exact (Below.refl _ _).drew)
  have HWD := Lib.hid ((H.out.below HB2.out).below HBD.out)
  have HKD := Lib.hid (HK2.out.below HBD.out)
  refine wp_region_noPanic ?_
  refine wp_region_held_drew (S := fun w' => World.cell? w' ⟨L.P, 2, none⟩ = some (.pointer (some ⟨L.dP, 0, none⟩)) ∧ (World.cell? w' ⟨kb, 0, none⟩ = some (.int .i64 4) ∧ World.cell? w' ⟨kb, 1, none⟩ = some (.int .i64 (k1 : Int)) ∧ World.cell? w' ⟨kb, 2, none⟩ = some (.int .i64 k2) ∧ World.cell? w' ⟨kb, 3, none⟩ = some (.int .i64 k3) ∧ World.cell? w' ⟨kb, 4, none⟩ = some (.int .u32 k4))) (by kernel_rfl) (by rw [← hwD]; exact ⟨HWD.out.kk.f2, HKD.out.k5⟩) (fun hHeld => ?_)
  rw [← hwD] at hHeld ⊢
  clear hwD
  refine wpAnyH_take (i := 0) (v := ?_) (by rfl) (by kernel_rfl) (by kernel_rfl) (by kernel_rfl) (fun _ _ _ h => h) (Or.inl ⟨by kernel_rfl, ?_⟩) (by assumption) ?_; rotate_left 1; (focus (intro w hSw; (try dsimp only at hSw); simp only [List.getElem_toArray, List.getElem_cons_succ, List.getElem_cons_zero]; all_goals go_simp; all_goals (try with_reducible rfl))); (try simp only [Act.put, List.getElem_toArray, List.getElem_cons_succ, List.getElem_cons_zero, List.setIfInBounds_toArray, List.set_cons_zero, List.set_cons_succ])
  refine wpAnyH_take (i := 1) (v := ?_) (by rfl) (by kernel_rfl) (by kernel_rfl) (by kernel_rfl) (fun _ _ _ h => h) (Or.inl ⟨by kernel_rfl, ?_⟩) (by assumption) ?_; rotate_left 1; (focus (intro w hSw; (try dsimp only at hSw); simp only [List.getElem_toArray, List.getElem_cons_succ, List.getElem_cons_zero]; all_goals go_simp; all_goals (try with_reducible rfl))); (try simp only [Act.put, List.getElem_toArray, List.getElem_cons_succ, List.getElem_cons_zero, List.setIfInBounds_toArray, List.set_cons_zero, List.set_cons_succ])
  refine wpAnyH_take (i := 2) (v := ?_) (by rfl) (by kernel_rfl) (by kernel_rfl) (by kernel_rfl) (fun _ _ _ h => h) (Or.inl ⟨by kernel_rfl, ?_⟩) (by assumption) ?_; rotate_left 1; (focus (intro w hSw; (try dsimp only at hSw); simp only [List.getElem_toArray, List.getElem_cons_succ, List.getElem_cons_zero]; all_goals go_simp; all_goals (try with_reducible rfl))); (try simp only [Act.put, List.getElem_toArray, List.getElem_cons_succ, List.getElem_cons_zero, List.setIfInBounds_toArray, List.set_cons_zero, List.set_cons_succ])
  refine wpAnyH_take (i := 3) (v := ?_) (by rfl) (by kernel_rfl) (by kernel_rfl) (by kernel_rfl) (fun _ _ _ h => h) (Or.inl ⟨by kernel_rfl, ?_⟩) (by assumption) ?_; rotate_left 1; (focus (intro w hSw; (try dsimp only at hSw); simp only [List.getElem_toArray, List.getElem_cons_succ, List.getElem_cons_zero]; all_goals go_simp; all_goals (try with_reducible rfl))); (try simp only [Act.put, List.getElem_toArray, List.getElem_cons_succ, List.getElem_cons_zero, List.setIfInBounds_toArray, List.set_cons_zero, List.set_cons_succ])
  refine wpAnyH_take (i := 4) (v := ?_) (by rfl) (by kernel_rfl) (by kernel_rfl) (by kernel_rfl) (fun _ _ _ h => h) (Or.inl ⟨by kernel_rfl, ?_⟩) (by assumption) ?_; rotate_left 1; (focus (intro w hSw; (try dsimp only at hSw); simp only [List.getElem_toArray, List.getElem_cons_succ, List.getElem_cons_zero]; all_goals go_simp; all_goals (try with_reducible rfl))); (try simp only [Act.put, List.getElem_toArray, List.getElem_cons_succ, List.getElem_cons_zero, List.setIfInBounds_toArray, List.set_cons_zero, List.set_cons_succ])
  refine wpAnyH_take (i := 5) (v := ?_) (by rfl) (by kernel_rfl) (by kernel_rfl) (by kernel_rfl) (fun _ _ _ h => h) (Or.inl ⟨by kernel_rfl, ?_⟩) (by assumption) ?_; rotate_left 1; (focus (intro w hSw; (try dsimp only at hSw); simp only [List.getElem_toArray, List.getElem_cons_succ, List.getElem_cons_zero]; all_goals go_simp; all_goals (try with_reducible rfl))); (try simp only [Act.put, List.getElem_toArray, List.getElem_cons_succ, List.getElem_cons_zero, List.setIfInBounds_toArray, List.set_cons_zero, List.set_cons_succ])
  refine wpAnyH_ready (rs := [6]) (by kernel_rfl) (by simp) ?_; refine AllReadyH.cons (by rfl) (fun K hK => ?_) AllReadyH.nil; rw [if_pos (by kernel_rfl)]; simp only [List.getElem_toArray, List.getElem_cons_succ, List.getElem_cons_zero]
  go_wp2_with (first
    | (go_at_call 65; (with_reducible refine (dend_ok k1 hn ht k2 hv u0 u1 _ HWD.out.dd).mono ?_); rintro e w3 ⟨rfl, hm, hkp⟩; have HN3 := Lib.hid ((And.intro (HWD.out.doms hm hkp) (UpT.pb hkp (T := L.T) (by have := HLT.out; omega) (by have := HLT.out; omega)) : BW w0 w3 L _ ∧ UpT L.T wD w3)); have HW3 := Lib.hid HN3.out.1; have HU3 := Lib.hid ((UpT.below (T := L.T) HBD.out).trans HN3.out.2); have HK3 := Lib.hid (HKD.out.upt HN3.out.2 HKb.out); clear hm hkp HN3))
  refine hK.out _ _ ⟨HW3.out.kk.f2, HK3.out.k5⟩ (fun hHeld => ?_)
  clear hK K hHeld
  (try simp only [Act.put, List.getElem_toArray, List.getElem_cons_succ, List.getElem_cons_zero, List.setIfInBounds_toArray, List.set_cons_zero, List.set_cons_succ])
  refine wpAnyH_done (by kernel_rfl) ?_ _
  refine NoPanic.normal ?_
  go_upto_region 8 with fail
  obtain ⟨wE, hwE⟩ : ∃ wE, wE = w3.drew := ⟨_, rfl⟩
  have HBE : Hid (Below w3.heap.size w3 wE) := Lib.hid (by rw [hwE]; exact (Below.refl _ _).drew)
  have HWE := Lib.hid (HW3.out.below HBE.out)
  have HKE := Lib.hid (HK3.out.below HBE.out)
  refine wp_region_noPanic ?_
  refine wp_region_held_drew (S := fun w' => (World.cell? w' ⟨kb, 0, none⟩ = some (.int .i64 4) ∧ World.cell? w' ⟨kb, 1, none⟩ = some (.int .i64 (k1 : Int)) ∧ World.cell? w' ⟨kb, 2, none⟩ = some (.int .i64 k2) ∧ World.cell? w' ⟨kb, 3, none⟩ = some (.int .i64 k3) ∧ World.cell? w' ⟨kb, 4, none⟩ = some (.int .u32 k4))) (by kernel_rfl) (by rw [← hwE]; exact HKE.out.k5) (fun hHeld => ?_)
  rw [← hwE] at hHeld ⊢
  clear hwE
  refine wpAnyH_take (i := 0) (v := ?_) (by rfl) (by kernel_rfl) (by kernel_rfl) (by kernel_rfl) (fun _ _ _ h => h) (Or.inl ⟨by kernel_rfl, ?_⟩) (by assumption) ?_; rotate_left 1; (focus (intro w hSw; (try dsimp only at hSw); simp only [List.getElem_toArray, List.getElem_cons_succ, List.getElem_cons_zero]; all_goals go_simp; all_goals (try with_reducible rfl))); (try simp only [Act.put, List.getElem_toArray, List.getElem_cons_succ, List.getElem_cons_zero, List.setIfInBounds_toArray, List.set_cons_zero, List.set_cons_succ])
  refine wpAnyH_take (i := 1) (v := ?_) (by rfl) (by kernel_rfl) (by kernel_rfl) (by kernel_rfl) (fun _ _ _ h => h) (Or.inl ⟨by kernel_rfl, ?_⟩) (by assumption) ?_; rotate_left 1; (focus (intro w hSw; (try dsimp only at hSw); simp only [List.getElem_toArray, List.getElem_cons_succ, List.getElem_cons_zero]; all_goals go_simp; all_goals (try with_reducible rfl))); (try simp only [Act.put, List.getElem_toArray, List.getElem_cons_succ, List.getElem_cons_zero, List.setIfInBounds_toArray, List.set_cons_zero, List.set_cons_succ])
  refine wpAnyH_take (i := 2) (v := ?_) (by rfl) (by kernel_rfl) (by kernel_rfl) (by kernel_rfl) (fun _ _ _ h => h) (Or.inl ⟨by kernel_rfl, ?_⟩) (by assumption) ?_; rotate_left 1; (focus (intro w hSw; (try dsimp only at hSw); simp only [List.getElem_toArray, List.getElem_cons_succ, List.getElem_cons_zero]; all_goals go_simp; all_goals (try with_reducible rfl))); (try simp only [Act.put, List.getElem_toArray, List.getElem_cons_succ, List.getElem_cons_zero, List.setIfInBounds_toArray, List.set_cons_zero, List.set_cons_succ])
  refine wpAnyH_take (i := 4) (v := ?_) (by rfl) (by kernel_rfl) (by kernel_rfl) (by kernel_rfl) (fun _ _ _ h => h) (Or.inl ⟨by kernel_rfl, ?_⟩) (by assumption) ?_; rotate_left 1; (focus (intro w hSw; (try dsimp only at hSw); simp only [List.getElem_toArray, List.getElem_cons_succ, List.getElem_cons_zero]; all_goals go_simp; all_goals (try with_reducible rfl))); (try simp only [Act.put, List.getElem_toArray, List.getElem_cons_succ, List.getElem_cons_zero, List.setIfInBounds_toArray, List.set_cons_zero, List.set_cons_succ])
  refine wpAnyH_take (i := 5) (v := ?_) (by rfl) (by kernel_rfl) (by kernel_rfl) (by kernel_rfl) (fun _ _ _ h => h) (Or.inl ⟨by kernel_rfl, ?_⟩) (by assumption) ?_; rotate_left 1; (focus (intro w hSw; (try dsimp only at hSw); simp only [List.getElem_toArray, List.getElem_cons_succ, List.getElem_cons_zero]; all_goals go_simp; all_goals (try with_reducible rfl))); (try simp only [Act.put, List.getElem_toArray, List.getElem_cons_succ, List.getElem_cons_zero, List.setIfInBounds_toArray, List.set_cons_zero, List.set_cons_succ])
  refine wpAnyH_take (i := 6) (v := ?_) (by rfl) (by kernel_rfl) (by kernel_rfl) (by kernel_rfl) (fun _ _ _ h => h) (Or.inl ⟨by kernel_rfl, ?_⟩) (by assumption) ?_; rotate_left 1; (focus (intro w hSw; (try dsimp only at hSw); simp only [List.getElem_toArray, List.getElem_cons_succ, List.getElem_cons_zero]; all_goals go_simp; all_goals (try with_reducible rfl))); (try simp only [Act.put, List.getElem_toArray, List.getElem_cons_succ, List.getElem_cons_zero, List.setIfInBounds_toArray, List.set_cons_zero, List.set_cons_succ])
  refine wpAnyH_ready (rs := [3]) (by kernel_rfl) (by simp) ?_; refine AllReadyH.cons (by rfl) (fun K hK => ?_) AllReadyH.nil; rw [if_pos (by kernel_rfl)]; simp only [List.getElem_toArray, List.getElem_cons_succ, List.getElem_cons_zero]
  go_wp2_with (first
    | (go_at_call 62; (with_reducible refine (btitles_is 4 L.G3 (.inr (.inr ⟨by decide, by decide, rfl⟩)) _ HWE.out).mono ?_); rintro e w5 ⟨rfl, rfl⟩))
  refine hK.out _ _ HKE.out.k5 (fun hHeld => ?_)
  clear hK K
  (try simp only [Act.put, List.getElem_toArray, List.getElem_cons_succ, List.getElem_cons_zero, List.setIfInBounds_toArray, List.set_cons_zero, List.set_cons_succ])
  refine wpAnyH_take (i := 7) (v := ?_) (by rfl) (by kernel_rfl) (by kernel_rfl) (by kernel_rfl) (fun _ _ _ h => h) (Or.inl ⟨by kernel_rfl, ?_⟩) (by assumption) ?_; rotate_left 1; (focus (intro w hSw; (try dsimp only at hSw); simp only [List.getElem_toArray, List.getElem_cons_succ, List.getElem_cons_zero]; all_goals go_simp; all_goals (try with_reducible rfl))); (try simp only [Act.put, List.getElem_toArray, List.getElem_cons_succ, List.getElem_cons_zero, List.setIfInBounds_toArray, List.set_cons_zero, List.set_cons_succ])
  refine wpAnyH_ready (rs := [8]) (by kernel_rfl) (by simp) ?_; refine AllReadyH.cons (by rfl) (fun K hK => ?_) AllReadyH.nil; rw [if_pos (by kernel_rfl)]; simp only [List.getElem_toArray, List.getElem_cons_succ, List.getElem_cons_zero]
  have hti := HWE.out.kk.t3.ti k1 hj
  obtain ⟨c0, c1⟩ := hti
  have z0 := HWE.out.kk.t3.fr (k1 * 2)
  have z1 := HWE.out.kk.t3.fr (k1 * 2 + 1)
  have HS := Lib.hid (HWE.out.kk.t3.title k1 hj (-1) 0)
  have H4 := Lib.hid (HWE.out.kk.ti3 HS.out.1 HS.out.2)
  have HUS := Lib.hid (UpT.grown (T := L.T) HS.out.2 (by have := HTT.out; omega))
  have HKF := Lib.hid (HKE.out.upt HUS.out HKb.out)
  go_wp2_with fail
  refine hK.out _ _ HKF.out.k5 (fun hHeld => ?_)
  clear hK K hHeld
  (try simp only [Act.put, List.getElem_toArray, List.getElem_cons_succ, List.getElem_cons_zero, List.setIfInBounds_toArray, List.set_cons_zero, List.set_cons_succ])
  refine wpAnyH_done (by kernel_rfl) ?_ _
  refine NoPanic.normal ?_
  go_wp2_with fail
  go_end0
  refine ⟨rfl, ?_, (((UpT.below HB2.out).trans HU3.out).trans (UpT.below HBE.out)).trans HUS.out⟩
  exact BW.bank HWE.out (D' := { D with dt := upd D.dt k1 false, dv := upd D.dv k1 (k2 + 1), o3 := upd D.o3 k1 (-1), v3 := upd D.v3 k1 0 }) H4.out (low_of HS.out.2 HWE.out.kk.t3.lt.1 HWE.out.bl) rfl H.out.pk H.out.nn
set_option maxRecDepth 100000 in
set_option maxHeartbeats 2000000 in
theorem bgive_ok {w0 : World} {L : BLoc} {D : BSt} {D2 : BSt} (k0 : Int) (k1 : Nat) (k2 k3 k4 : Int) (G q : Nat) (hj2 : k1 < 256) (hq : q < D.nb) (ht : Hid (liveK L D k0 k1 k2 = true)) (h2 : Hid (D2.nb = D.nb ∧ D2.pr = D.pr ∧ D2.us = D.us)) (hu : Hid (∀ i, i < L.n → -1000000 ≤ D.us i ∧ D.us i ≤ 1000000)) (w : World) (h : BW w0 w L D) (hT : TiAt w L k0 G k1 q k2)
    (hgb : ∀ W, BW w0 W L D → Calls Tryd.prog 36 #[.pointer (some ⟨L.P, 0, none⟩), (Value.agg #[.int .i64 k0, .int .i64 k1, .int .i64 k2, .int .i64 k3, .int .u32 k4])] W fun e w' => e = .returned (.tuple #[]) ∧ BW w0 w' L D2 ∧ UpT L.T W w') :
    Calls Tryd.prog 16 #[.pointer (some ⟨L.P, 0, none⟩), .int .i64 (q : Int), (Value.agg #[.int .i64 k0, .int .i64 k1, .int .i64 k2, .int .i64 k3, .int .u32 k4])] w fun e w' => e = .returned .nilIface ∧ BW w0 w' L { D2 with us := addL D.us (chL D.pr q) (-1) } ∧ UpT L.T w w' := by
  have H := Lib.hid (fun o => h.below ((Below.refl _ _).alloc (Nat.le_refl _) _ : Below w.heap.size w (w.alloc o)))
  have HT := Lib.hid (fun o => hT.below ((Below.refl _ _).alloc (Nat.le_refl _) _ : Below w.heap.size w (w.alloc o)))
  have HGB := Lib.hid hgb
  have f0 := fun o => (h.below ((Below.refl _ _).alloc (Nat.le_refl _) _ : Below w.heap.size w (w.alloc o))).kk.f0
  have hn := h.n256
  have hnn := h.nn
  have hin := chL_in h.pk h.nn (by omega) q hq
  obtain ⟨l, hl⟩ : ∃ l, Hid (chL D.pr q = l) := ⟨_, Lib.hid rfl⟩
  rw [hl.out] at hin
  obtain ⟨m, hm⟩ : ∃ m, Hid (l.length = m) := ⟨_, Lib.hid rfl⟩
  have hm1 : m ≤ 1000 := by rw [← hm.out]; omega
  have HIn := Lib.hid hin.1
  have HNd := Lib.hid hin.2.2
  have HPk := Lib.hid h.pk
  have HTT := Lib.hid h.tt
  have HTw := Lib.hid h.tw
  have hqq : ((q : Int) != (q : Int)) = false := by simp
  clear h hT hgb hin
  go_enter Tryd.func16, Tryd.ntmps16
  go_wp2_with (first
    | (go_at_call 32; (with_reducible refine (athere_in q (by omega) true (Lib.hid (thN_at hq)) _ (H.out _).kk.ar).mono ?_); rintro e w1 ⟨rfl, rfl⟩)
    | (go_at_call 34; (with_reducible refine (blive_is k0 (k1 : Int) k2 k3 k4 true ht _ (H.out _)).mono ?_); rintro e w1 ⟨rfl, hb⟩; have HB1 := Lib.hid (((Below.refl _ _).alloc (Nat.le_refl _) _ : Below w.heap.size w _).trans (hb.mono (by simp))); have HW1 := Lib.hid ((H.out _).below hb); have HT1 := Lib.hid ((HT.out _).below hb); have HK1 := Lib.hid ((KeyC.new w k0 (k1 : Int) k2 k3 k4 82).below hb); have q0 := HK1.out.c0; have q1 := HK1.out.c1; have q2 := HK1.out.c2; have q3 := HK1.out.c3; have q4 := HK1.out.c4; clear hb f0)
    | (go_at_call 35; (with_reducible refine (bowner_live k0 k1 k2 k3 k4 G q hj2 hq ht _ HW1.out HT1.out).mono ?_); rintro e w2 ⟨rfl, hb⟩; have HB2 := Lib.hid (HB1.out.trans (hb.mono HB1.out.size)); have HW2 := Lib.hid (HW1.out.below hb); have HK2 := Lib.hid (HK1.out.below hb); clear q0 q1 q2 q3 q4; have q0 := HK2.out.c0; have q1 := HK2.out.c1; have q2 := HK2.out.c2; have q3 := HK2.out.c3; have q4 := HK2.out.c4; clear hb)
    | (go_at_call 36; (with_reducible refine (HGB.out _ HW2.out).mono ?_); rintro e w3 ⟨rfl, hW, hu3⟩; have HW3 := Lib.hid hW; have HU3 := Lib.hid ((UpT.below (T := L.T) HB2.out).trans hu3); have HBn := Lib.hid hW.kk; rw [h2.out.1, h2.out.2.1, h2.out.2.2] at HBn; clear hW hu3 q0 q1 q2 q3 q4)
    | (go_at_call 38; (with_reducible refine (bchain_is (q : Int) D.nb (by omega) (by omega) hnn (Lib.hid (fun i hi => thN_at hi)) HPk _ HBn.out).mono ?_); rintro e w4 ⟨v9, rfl, hr, hb⟩; rw [hl.out] at hr; obtain ⟨a9, c9, hv9⟩ := own_slice hr m hm; have HRw := Lib.hid (rowT hr hv9 hm.out HW3.out.tw); subst hv9; have H4 := Lib.hid (HBn.out.below hb); have HW4 := Lib.hid (HW3.out.below hb); have HU4 := Lib.hid (HU3.out.trans (UpT.below hb)); clear hr hb)
    | (go_at_call 37; (with_reducible refine (bcount_is l m hm hm1 a9 c9 HIn HNd (-1) (by decide) hu _ H4.out (fun i hi => by obtain ⟨g, h1, h2, h3, h4⟩ := HRw.out _ (UpT.refl _ _) i hi; exact ⟨g, h1, h3, by have := HTT.out; omega, h4⟩)).mono ?_); rintro e w5 ⟨rfl, hB, hg⟩; have H5 := Lib.hid hB; have HG5 := Lib.hid hg; clear hB hg))
  go_ret
  refine ⟨rfl, ?_, HU4.out.trans (UpT.grown HG5.out (by have := HTT.out; omega))⟩
  have hk := H5.out
  rw [← h2.out.1, ← h2.out.2.1, ← hl.out] at hk
  refine BW.bank HW4.out (D' := { D2 with us := addL D.us (chL D.pr q) (-1) }) ?_ (low_of HG5.out HW4.out.kk.ac.lt.1 HW4.out.bl) rfl HW4.out.pk HW4.out.nn
  exact hk
theorem bgive_none {w0 : World} {L : BLoc} {D : BSt} (k0 : Int) (k1 k2 k3 k4 : Int) (q : Nat) (hq : q < D.nb) (ht : Hid (liveK L D k0 k1 k2 = false)) (v : Value) (w : World) (h : BW w0 w L D) (hE : w.cell? ⟨0, 0, none⟩ = some v) (hlt : 0 < w.heap.size) :
    Calls Tryd.prog 16 #[.pointer (some ⟨L.P, 0, none⟩), .int .i64 (q : Int), (Value.agg #[.int .i64 k0, .int .i64 k1, .int .i64 k2, .int .i64 k3, .int .u32 k4])] w fun e w' => e = .returned v ∧ Below w.heap.size w w' := by
  have H := Lib.hid (fun o => h.below ((Below.refl _ _).alloc (Nat.le_refl _) _ : Below w.heap.size w (w.alloc o)))
  have f0 := fun o => (h.below ((Below.refl _ _).alloc (Nat.le_refl _) _ : Below w.heap.size w (w.alloc o))).kk.f0
  have hnn := h.nn
  clear h
  go_enter Tryd.func16, Tryd.ntmps16
  go_wp2_with (first
    | (go_at_call 32; (with_reducible refine (athere_in q (by omega) true (Lib.hid (thN_at hq)) _ (H.out _).kk.ar).mono ?_); rintro e w1 ⟨rfl, rfl⟩)
    | (go_at_call 34; (with_reducible refine (blive_is k0 k1 k2 k3 k4 false ht _ (H.out _)).mono ?_); rintro e w1 ⟨rfl, hb⟩; have HB1 := Lib.hid (((Below.refl _ _).alloc (Nat.le_refl _) _ : Below w.heap.size w _).trans (hb.mono (by simp))); have hE2 := (HB1.out.cell (p := ⟨0, 0, none⟩) hlt).trans hE; clear hb f0 hE))
  go_ret
  exact ⟨rfl, HB1.out⟩
theorem bgive_own {w0 : World} {L : BLoc} {D : BSt} (k0 : Int) (k1 : Nat) (k2 k3 k4 : Int) (G q q2 : Nat) (hj2 : k1 < 256) (hq : q < D.nb) (hq2 : q2 < D.nb) (hne : q2 ≠ q) (ht : Hid (liveK L D k0 k1 k2 = true)) (v : Value) (w : World) (h : BW w0 w L D) (hT : TiAt w L k0 G k1 q k2) (hE : w.cell? ⟨1, 0, none⟩ = some v) (hlt : 1 < w.heap.size) :
    Calls Tryd.prog 16 #[.pointer (some ⟨L.P, 0, none⟩), .int .i64 (q2 : Int), (Value.agg #[.int .i64 k0, .int .i64 k1, .int .i64 k2, .int .i64 k3, .int .u32 k4])] w fun e w' => e = .returned v ∧ Below w.heap.size w w' := by
  have H := Lib.hid (fun o => h.below ((Below.refl _ _).alloc (Nat.le_refl _) _ : Below w.heap.size w (w.alloc o)))
  have HT := Lib.hid (fun o => hT.below ((Below.refl _ _).alloc (Nat.le_refl _) _ : Below w.heap.size w (w.alloc o)))
  have f0 := fun o => (h.below ((Below.refl _ _).alloc (Nat.le_refl _) _ : Below w.heap.size w (w.alloc o))).kk.f0
  have hnn := h.nn
  have hqq : ((q : Int) != (q2 : Int)) = true := by rw [bne_iff_ne]; omega
  clear h hT
  go_enter Tryd.func16, Tryd.ntmps16
  go_wp2_with (first
    | (go_at_call 32; (with_reducible refine (athere_in q2 (by omega) true (Lib.hid (thN_at hq2)) _ (H.out _).kk.ar).mono ?_); rintro e w1 ⟨rfl, rfl⟩)
    | (go_at_call 34; (with_reducible refine (blive_is k0 (k1 : Int) k2 k3 k4 true ht _ (H.out _)).mono ?_); rintro e w1 ⟨rfl, hb⟩; have HB1 := Lib.hid (((Below.refl _ _).alloc (Nat.le_refl _) _ : Below w.heap.size w _).trans (hb.mono (by simp))); have HW1 := Lib.hid ((H.out _).below hb); have HT1 := Lib.hid ((HT.out _).below hb); have HK1 := Lib.hid ((KeyC.new w k0 (k1 : Int) k2 k3 k4 82).below hb); have q0 := HK1.out.c0; have q1 := HK1.out.c1; have q2' := HK1.out.c2; have q3 := HK1.out.c3; have q4 := HK1.out.c4; clear hb f0)
    | (go_at_call 35; (with_reducible refine (bowner_live k0 k1 k2 k3 k4 G q hj2 hq ht _ HW1.out HT1.out).mono ?_); rintro e w2 ⟨rfl, hb⟩; have HB2 := Lib.hid (HB1.out.trans (hb.mono HB1.out.size)); have hE2 := (HB2.out.cell (p := ⟨1, 0, none⟩) hlt).trans hE; clear hb hE))
  go_ret
  exact ⟨rfl, HB2.out⟩
end Go.Proofs.YtncopdhhchmpeaaDoor
namespace Go.Proofs.YtncopdhhchmpeaaDoor
open Go.ChangeShapes Go.WideShapes Go.ChangeAt Go.RowKit
set_option linter.unusedVariables false
set_option linter.unusedSimpArgs false
theorem ErrsAt.up {vs vr : Value} {w w' : World} (h : ErrsAt vs vr w) (hb : Below w.heap.size w w') : ErrsAt vs vr w' := h.below hb
def boughtN (D : BSt) (q j : Nat) (v : Int) (nW : Nat → Nat → Value) : BSt := { D with nt := upd D.nt j true, nW := nW, us := addL D.us (chL D.pr q) 1, o1 := upd D.o1 j q, v1 := upd D.v1 j v }
/-- Keys that are handed in lie apart. -/
def SrcV (L : BLoc) (w : World) (a : Option Addr) (m : Nat) (kk : Nat → Nat → Int) : Prop := ∀ W, Below w.heap.size w W → ∀ B G, (B < L.T ∨ w.heap.size ≤ B) → (G < L.T ∨ w.heap.size ≤ G) → SrcK W a m kk B G
theorem SrcV.run {L : BLoc} {w : World} {a : Option Addr} {m : Nat} {kk : Nat → Nat → Int} (h : SrcV L w a m kk) (W : World) (hb : Below w.heap.size w W) (B G : Nat) (hB : B < L.T ∨ w.heap.size ≤ B) (hG : G < L.T ∨ w.heap.size ≤ G) : SrcK W a m kk B G := h W hb B G hB hG
theorem srcv_none (L : BLoc) (w : World) (kk : Nat → Nat → Int) : SrcV L w none 0 kk := fun _ _ _ _ _ _ => ⟨fun j hj => by omega⟩
end Go.Proofs.YtncopdhhchmpeaaDoor
namespace Go.Proofs.YtncopdhhchmpeaaDoor
open Go.ChangeShapes Go.WideShapes Go.ChangeAt Go.RowKit
set_option linter.unusedVariables false
set_option linter.unusedSimpArgs false
def boughtD (D : BSt) (q j : Nat) (v : Int) : BSt := { D with dt := upd D.dt j true, dW := updS D.dW j 0 zsD1, us := addL D.us (chL D.pr q) 1, o3 := upd D.o3 j q, v3 := upd D.v3 j v }
set_option maxRecDepth 100000 in
set_option maxHeartbeats 2000000 in
theorem bbuyd_ok {w0 : World} {L : BLoc} {D : BSt} (q : Nat) (hq : q < D.nb) (j : Nat) (v : Int) (hj : j < L.dn) (hyes : Hid (freeB D.dt D.dv j = true)) (hno : Hid (∀ i, i < j → freeB D.dt D.dv i = false)) (hv : Hid (D.dv j = v)) (hfull : Hid ((chL D.pr q).any (fullB D.us D.lm) = false)) (hu : Hid (∀ i, i < L.n → -1000000 ≤ D.us i ∧ D.us i ≤ 1000000)) (w : World) (h : BW w0 w L D) :
    Calls Tryd.prog 30 #[.pointer (some ⟨L.P, 0, none⟩), .int .i64 (q : Int), .slice (some ⟨L.G3, 0, none⟩) 256 256, .nilIface, (Value.func (.func 31) #[.pointer (some ⟨L.dP, 0, none⟩)] #[])] w fun e w' => e = .returned (.tuple #[.int .i64 j, .int .i64 v, .nilIface]) ∧ BW w0 w' L (boughtD D q j v) ∧ UpT L.T w w' := by
  have H := Lib.hid h
  have hn := h.n256
  have hpn := h.dn256
  have hnn := h.nn
  have hin := chL_in h.pk h.nn (by omega) q hq
  obtain ⟨l, hl⟩ : ∃ l, Hid (chL D.pr q = l) := ⟨_, Lib.hid rfl⟩
  rw [hl.out] at hin hfull
  obtain ⟨m, hm⟩ : ∃ m, Hid (l.length = m) := ⟨_, Lib.hid rfl⟩
  have hm1 : m ≤ 1000 := by rw [← hm.out]; omega
  have HIn := Lib.hid hin.1
  have HNd := Lib.hid hin.2.2
  have HPk := Lib.hid h.pk
  have HLT := Lib.hid h.lowT
  have HTT := Lib.hid h.tt
  have HTw := Lib.hid h.tw
  have f0 := h.kk.f0
  have k0 : (0 : Int) ≤ j := by omega
  have k1 : (j : Int) < 256 := by omega
  clear h hin
  go_enter Tryd.func30, Tryd.ntmps30
  go_wp2_with (first
    | (go_at_call 32; (with_reducible refine (athere_in q (by omega) true (Lib.hid (thN_at hq)) _ H.out.kk.ar).mono ?_); rintro e w1 ⟨rfl, rfl⟩)
    | (go_at_call 38; (with_reducible refine (bchain_is (q : Int) D.nb (by omega) (by omega) hnn (Lib.hid (fun i hi => thN_at hi)) HPk _ H.out.kk).mono ?_); rintro e w1 ⟨v9, rfl, hr, hb⟩; rw [hl.out] at hr; obtain ⟨a9, c9, hv9⟩ := own_slice hr m hm; have HRw := Lib.hid (rowT hr hv9 hm.out HTw.out); subst hv9; have H1 := Lib.hid (H.out.below hb); have HB1 := Lib.hid hb; clear hr hb f0)
    | (go_at_call 58; (with_reducible refine (bcf_is l m hm hm1 a9 c9 HIn false hfull _ H1.out.kk (fun i hi => by obtain ⟨g, h1, h2, h3, h4⟩ := HRw.out w1 (UpT.refl _ _) i hi; exact ⟨g, h1, h3, h4⟩)).mono ?_); rintro e w2 ⟨rfl, hb⟩; have HB2 := Lib.hid hb; clear hb)
    | (go_at_call 31; (with_reducible refine (dmake_ok j hj hyes hno v hv _ (H1.out.below HB2.out).dd).mono ?_); rintro e w3 ⟨rfl, hd, hb⟩; have hW := (H1.out.below HB2.out).doms hd hb; have H3 := Lib.hid hW; have HU3 := Lib.hid ((UpT.below HB2.out).trans (UpT.pb hb (T := L.T) (by have := HLT.out; omega) (by have := HLT.out; omega))); have ht := hW.kk.t3.ti j (by omega); obtain ⟨c0, c1⟩ := ht; have z0 := hW.kk.t3.fr (j * 2); have z1 := hW.kk.t3.fr (j * 2 + 1); have HS := Lib.hid (hW.kk.t3.title j (by omega) q v); have H4 := Lib.hid (hW.kk.ti3 HS.out.1 HS.out.2); have HU4 := Lib.hid (HU3.out.trans (UpT.grown HS.out.2 (T := L.T) (by have := HTT.out; omega))); clear hW hb hd)
    | (go_at_call 37; (with_reducible refine (bcount_is l m hm hm1 a9 c9 HIn HNd 1 (by decide) hu _ H4.out (fun i hi => by obtain ⟨g, h1, h2, h3, h4⟩ := HRw.out _ HU4.out i hi; exact ⟨g, h1, h3, by have := HTT.out; omega, h4⟩)).mono ?_); rintro e w5 ⟨rfl, hB, hg⟩; have H5 := Lib.hid hB; have HG5 := Lib.hid hg; clear hB hg c0 c1 z0 z1))
  go_ret3
  refine ⟨rfl, ?_, ((UpT.below HB1.out).trans HU4.out).trans (UpT.grown HG5.out (by have := HTT.out; omega))⟩
  have hlo : Below L.bB w3 w5 := by
    refine (low_of HS.out.2 H3.out.kk.t3.lt.1 H3.out.bl).trans (low_of HG5.out H3.out.kk.ac.lt.1 ?_)
    exact Nat.le_trans H3.out.bl HS.out.2.size
  refine BW.bank H3.out (D' := boughtD D q j v) ?_ hlo rfl HPk.out hnn
  have := H5.out
  rw [← hl.out] at this
  exact this
set_option maxRecDepth 100000 in
set_option maxHeartbeats 2000000 in
theorem bdomain_ok {w0 : World} {L : BLoc} {D : BSt} (q : Nat) (hq : q < D.nb) (j : Nat) (v : Int) (hj : j < L.dn) (hyes : Hid (freeB D.dt D.dv j = true)) (hno : Hid (∀ i, i < j → freeB D.dt D.dv i = false)) (hv : Hid (D.dv j = v)) (hfull : Hid ((chL D.pr q).any (fullB D.us D.lm) = false)) (hu : Hid (∀ i, i < L.n → -1000000 ≤ D.us i ∧ D.us i ≤ 1000000)) (w : World) (h : BW w0 w L D) :
    Calls Tryd.prog 12 #[.pointer (some ⟨L.P, 0, none⟩), .int .i64 (q : Int)] w fun e w' => e = .returned (.tuple #[.int .i64 j, .int .i64 v, .nilIface]) ∧ BW w0 w' L (boughtD D q j v) ∧ UpT L.T w w' := by
  obtain ⟨wD, hwD⟩ : ∃ wD, wD = w.drew := ⟨_, rfl⟩
  have HBD : Hid (Below w.heap.size w wD) := Lib.hid (by rw [hwD]; exact (Below.refl _ _).drew)
  have HD := Lib.hid (h.below HBD.out)
  have HTw := Lib.hid h.tw
  clear h
  go_enter Tryd.func12, Tryd.ntmps12
  go_upto_region 1 with fail
  refine wp_region_noPanic ?_
  refine wp_region_held_drew (S := fun w' => (World.cell? w' ⟨L.P, 6, none⟩ = some (.slice (some ⟨L.G3, 0, none⟩) 256 256) ∧ World.cell? w' ⟨L.P, 2, none⟩ = some (.pointer (some ⟨L.dP, 0, none⟩)))) (by kernel_rfl) (by rw [← hwD]; exact ⟨HD.out.kk.f6, HD.out.kk.f2⟩) (fun hHeld => ?_)
  rw [← hwD] at hHeld ⊢
  clear hwD
  refine wpAnyH_take (i := 0) (v := ?_) (by rfl) (by kernel_rfl) (by kernel_rfl) (by kernel_rfl) (fun _ _ _ h => h) (Or.inl ⟨by kernel_rfl, ?_⟩) (by assumption) ?_; rotate_left 1; (focus (intro w hSw; (try dsimp only at hSw); simp only [List.getElem_toArray, List.getElem_cons_succ, List.getElem_cons_zero]; all_goals go_simp; all_goals (try with_reducible rfl))); (try simp only [Act.put, List.getElem_toArray, List.getElem_cons_succ, List.getElem_cons_zero, List.setIfInBounds_toArray, List.set_cons_zero, List.set_cons_succ])
  refine wpAnyH_take (i := 1) (v := ?_) (by rfl) (by kernel_rfl) (by kernel_rfl) (by kernel_rfl) (fun _ _ _ h => h) (Or.inl ⟨by kernel_rfl, ?_⟩) (by assumption) ?_; rotate_left 1; (focus (intro w hSw; (try dsimp only at hSw); simp only [List.getElem_toArray, List.getElem_cons_succ, List.getElem_cons_zero]; all_goals go_simp; all_goals (try with_reducible rfl))); (try simp only [Act.put, List.getElem_toArray, List.getElem_cons_succ, List.getElem_cons_zero, List.setIfInBounds_toArray, List.set_cons_zero, List.set_cons_succ])
  refine wpAnyH_take (i := 2) (v := ?_) (by rfl) (by kernel_rfl) (by kernel_rfl) (by kernel_rfl) (fun _ _ _ h => h) (Or.inl ⟨by kernel_rfl, ?_⟩) (by assumption) ?_; rotate_left 1; (focus (intro w hSw; (try dsimp only at hSw); simp only [List.getElem_toArray, List.getElem_cons_succ, List.getElem_cons_zero]; all_goals go_simp; all_goals (try with_reducible rfl))); (try simp only [Act.put, List.getElem_toArray, List.getElem_cons_succ, List.getElem_cons_zero, List.setIfInBounds_toArray, List.set_cons_zero, List.set_cons_succ])
  refine wpAnyH_take (i := 3) (v := ?_) (by rfl) (by kernel_rfl) (by kernel_rfl) (by kernel_rfl) (fun _ _ _ h => h) (Or.inl ⟨by kernel_rfl, ?_⟩) (by assumption) ?_; rotate_left 1; (focus (intro w hSw; (try dsimp only at hSw); simp only [List.getElem_toArray, List.getElem_cons_succ, List.getElem_cons_zero]; all_goals go_simp; all_goals (try with_reducible rfl))); (try simp only [Act.put, List.getElem_toArray, List.getElem_cons_succ, List.getElem_cons_zero, List.setIfInBounds_toArray, List.set_cons_zero, List.set_cons_succ])
  refine wpAnyH_take (i := 4) (v := ?_) (by rfl) (by kernel_rfl) (by kernel_rfl) (by kernel_rfl) (fun _ _ _ h => h) (Or.inl ⟨by kernel_rfl, ?_⟩) (by assumption) ?_; rotate_left 1; (focus (intro w hSw; (try dsimp only at hSw); simp only [List.getElem_toArray, List.getElem_cons_succ, List.getElem_cons_zero]; all_goals go_simp; all_goals (try with_reducible rfl))); (try simp only [Act.put, List.getElem_toArray, List.getElem_cons_succ, List.getElem_cons_zero, List.setIfInBounds_toArray, List.set_cons_zero, List.set_cons_succ])
  refine wpAnyH_take (i := 5) (v := ?_) (by rfl) (by kernel_rfl) (by kernel_rfl) (by kernel_rfl) (fun _ _ _ h => h) (Or.inl ⟨by kernel_rfl, ?_⟩) (by assumption) ?_; rotate_left 1; (focus (intro w hSw; (try dsimp only at hSw); simp only [List.getElem_toArray, List.getElem_cons_succ, List.getElem_cons_zero]; all_goals go_simp; all_goals (try with_reducible rfl))); (try simp only [Act.put, List.getElem_toArray, List.getElem_cons_succ, List.getElem_cons_zero, List.setIfInBounds_toArray, List.set_cons_zero, List.set_cons_succ])
  refine wpAnyH_take (i := 6) (v := ?_) (by rfl) (by kernel_rfl) (by kernel_rfl) (by kernel_rfl) (fun _ _ _ h => h) (Or.inl ⟨by kernel_rfl, ?_⟩) (by assumption) ?_; rotate_left 1; (focus (intro w hSw; (try dsimp only at hSw); simp only [List.getElem_toArray, List.getElem_cons_succ, List.getElem_cons_zero]; all_goals go_simp; all_goals (try with_reducible rfl))); (try simp only [Act.put, List.getElem_toArray, List.getElem_cons_succ, List.getElem_cons_zero, List.setIfInBounds_toArray, List.set_cons_zero, List.set_cons_succ])
  refine wpAnyH_take (i := 7) (v := ?_) (by rfl) (by kernel_rfl) (by kernel_rfl) (by kernel_rfl) (fun _ _ _ h => h) (Or.inl ⟨by kernel_rfl, ?_⟩) (by assumption) ?_; rotate_left 1; (focus (intro w hSw; (try dsimp only at hSw); simp only [List.getElem_toArray, List.getElem_cons_succ, List.getElem_cons_zero]; all_goals go_simp; all_goals (try with_reducible rfl))); (try simp only [Act.put, List.getElem_toArray, List.getElem_cons_succ, List.getElem_cons_zero, List.setIfInBounds_toArray, List.set_cons_zero, List.set_cons_succ])
  refine wpAnyH_take (i := 8) (v := ?_) (by rfl) (by kernel_rfl) (by kernel_rfl) (by kernel_rfl) (fun _ _ _ h => h) (Or.inl ⟨by kernel_rfl, ?_⟩) (by assumption) ?_; rotate_left 1; (focus (intro w hSw; (try dsimp only at hSw); simp only [List.getElem_toArray, List.getElem_cons_succ, List.getElem_cons_zero]; all_goals go_simp; all_goals (try with_reducible rfl))); (try simp only [Act.put, List.getElem_toArray, List.getElem_cons_succ, List.getElem_cons_zero, List.setIfInBounds_toArray, List.set_cons_zero, List.set_cons_succ])
  refine wpAnyH_take (i := 9) (v := ?_) (by rfl) (by kernel_rfl) (by kernel_rfl) (by kernel_rfl) (fun _ _ _ h => h) (Or.inl ⟨by kernel_rfl, ?_⟩) (by assumption) ?_; rotate_left 1; (focus (intro w hSw; (try dsimp only at hSw); simp only [List.getElem_toArray, List.getElem_cons_succ, List.getElem_cons_zero]; all_goals go_simp; all_goals (try with_reducible rfl))); (try simp only [Act.put, List.getElem_toArray, List.getElem_cons_succ, List.getElem_cons_zero, List.setIfInBounds_toArray, List.set_cons_zero, List.set_cons_succ])
  refine wpAnyH_take (i := 10) (v := ?_) (by rfl) (by kernel_rfl) (by kernel_rfl) (by kernel_rfl) (fun _ _ _ h => h) (Or.inl ⟨by kernel_rfl, ?_⟩) (by assumption) ?_; rotate_left 1; (focus (intro w hSw; (try dsimp only at hSw); simp only [List.getElem_toArray, List.getElem_cons_succ, List.getElem_cons_zero]; all_goals go_simp; all_goals (try with_reducible rfl))); (try simp only [Act.put, List.getElem_toArray, List.getElem_cons_succ, List.getElem_cons_zero, List.setIfInBounds_toArray, List.set_cons_zero, List.set_cons_succ])
  refine wpAnyH_ready (rs := [11]) (by kernel_rfl) (by simp) ?_; refine AllReadyH.cons (by rfl) (fun K hK => ?_) AllReadyH.nil; rw [if_pos (by kernel_rfl)]; simp only [List.getElem_toArray, List.getElem_cons_succ, List.getElem_cons_zero]
  go_wp2_with (first
    | (go_at_call 30; (with_reducible refine (bbuyd_ok q hq j v hj hyes hno hv hfull hu _ HD.out).mono ?_); rintro e w4 ⟨rfl, hW, hu4⟩; have HW4 := Lib.hid hW; have HU4 := Lib.hid hu4; clear hW hu4))
  refine hK.out _ _ ⟨HW4.out.kk.f6, HW4.out.kk.f2⟩ (fun hHeld => ?_)
  clear hK K
  (try simp only [Act.put, List.getElem_toArray, List.getElem_cons_succ, List.getElem_cons_zero, List.setIfInBounds_toArray, List.set_cons_zero, List.set_cons_succ])
  refine wpAnyH_take (i := 12) (v := ?_) (by rfl) (by kernel_rfl) (by kernel_rfl) (by kernel_rfl) (fun _ _ _ h => h) (Or.inl ⟨by kernel_rfl, ?_⟩) (by assumption) ?_; rotate_left 1; (focus (intro w hSw; (try dsimp only at hSw); simp only [List.getElem_toArray, List.getElem_cons_succ, List.getElem_cons_zero]; all_goals go_simp; all_goals (try with_reducible rfl))); (try simp only [Act.put, List.getElem_toArray, List.getElem_cons_succ, List.getElem_cons_zero, List.setIfInBounds_toArray, List.set_cons_zero, List.set_cons_succ])
  refine wpAnyH_take (i := 13) (v := ?_) (by rfl) (by kernel_rfl) (by kernel_rfl) (by kernel_rfl) (fun _ _ _ h => h) (Or.inl ⟨by kernel_rfl, ?_⟩) (by assumption) ?_; rotate_left 1; (focus (intro w hSw; (try dsimp only at hSw); simp only [List.getElem_toArray, List.getElem_cons_succ, List.getElem_cons_zero]; all_goals go_simp; all_goals (try with_reducible rfl))); (try simp only [Act.put, List.getElem_toArray, List.getElem_cons_succ, List.getElem_cons_zero, List.setIfInBounds_toArray, List.set_cons_zero, List.set_cons_succ])
  refine wpAnyH_take (i := 14) (v := ?_) (by rfl) (by kernel_rfl) (by kernel_rfl) (by kernel_rfl) (fun _ _ _ h => h) (Or.inl ⟨by kernel_rfl, ?_⟩) (by assumption) ?_; rotate_left 1; (focus (intro w hSw; (try dsimp only at hSw); simp only [List.getElem_toArray, List.getElem_cons_succ, List.getElem_cons_zero]; all_goals go_simp; all_goals (try with_reducible rfl))); (try simp only [Act.put, List.getElem_toArray, List.getElem_cons_succ, List.getElem_cons_zero, List.setIfInBounds_toArray, List.set_cons_zero, List.set_cons_succ])
  refine wpAnyH_take (i := 15) (v := ?_) (by rfl) (by kernel_rfl) (by kernel_rfl) (by kernel_rfl) (fun _ _ _ h => h) (Or.inl ⟨by kernel_rfl, ?_⟩) (by assumption) ?_; rotate_left 1; (focus (intro w hSw; (try dsimp only at hSw); simp only [List.getElem_toArray, List.getElem_cons_succ, List.getElem_cons_zero]; all_goals go_simp; all_goals (try with_reducible rfl))); (try simp only [Act.put, List.getElem_toArray, List.getElem_cons_succ, List.getElem_cons_zero, List.setIfInBounds_toArray, List.set_cons_zero, List.set_cons_succ])
  refine wpAnyH_take (i := 16) (v := ?_) (by rfl) (by kernel_rfl) (by kernel_rfl) (by kernel_rfl) (fun _ _ _ h => h) (Or.inl ⟨by kernel_rfl, ?_⟩) (by assumption) ?_; rotate_left 1; (focus (intro w hSw; (try dsimp only at hSw); simp only [List.getElem_toArray, List.getElem_cons_succ, List.getElem_cons_zero]; all_goals go_simp; all_goals (try with_reducible rfl))); (try simp only [Act.put, List.getElem_toArray, List.getElem_cons_succ, List.getElem_cons_zero, List.setIfInBounds_toArray, List.set_cons_zero, List.set_cons_succ])
  refine wpAnyH_take (i := 17) (v := ?_) (by rfl) (by kernel_rfl) (by kernel_rfl) (by kernel_rfl) (fun _ _ _ h => h) (Or.inl ⟨by kernel_rfl, ?_⟩) (by assumption) ?_; rotate_left 1; (focus (intro w hSw; (try dsimp only at hSw); simp only [List.getElem_toArray, List.getElem_cons_succ, List.getElem_cons_zero]; all_goals go_simp; all_goals (try with_reducible rfl))); (try simp only [Act.put, List.getElem_toArray, List.getElem_cons_succ, List.getElem_cons_zero, List.setIfInBounds_toArray, List.set_cons_zero, List.set_cons_succ])
  refine wpAnyH_done (by kernel_rfl) ?_ _
  refine NoPanic.normal ?_
  go_wp2_with fail
  go_ret3
  exact ⟨rfl, HW4.out, (UpT.below HBD.out).trans HU4.out⟩
end Go.Proofs.YtncopdhhchmpeaaDoor
namespace Go.Proofs.YtncopdhhchmpeaaDoor
open Go.ChangeShapes Go.WideShapes Go.ChangeAt Go.RowKit
set_option linter.unusedVariables false
set_option linter.unusedSimpArgs false
theorem updS_D1 (W : Nat → Nat → Value) (i j : Nat) (hj : j < 107) : updS W i 0 zsD1 i j = zd1 j := by
  have h := updS_in W i 0 zsD1 j (by rw [zsD1_len]; exact hj)
  rw [Nat.zero_add, zsD1_get j hj] at h
  exact Option.some.inj h
theorem updS_row (W : Nat → Nat → Value) (i j : Nat) (f : Nat → Value) (hj : j < 107) : updS W i 0 (rowL f) i j = f j := by
  have h := updS_in W i 0 (rowL f) j (by rw [rowL_len]; exact hj)
  rw [Nat.zero_add, rowL_at f j hj] at h
  exact Option.some.inj h
theorem zd1_one (j : Nat) : (zd1 j).oneCell' = true := by
  unfold zd1
  split
  · rfl
  · exact zd_one j
/-- A domain of such a state, such a wait. -/
def fX (s wt : Int) (j : Nat) : Value := if j = 9 then .int .i64 s else if j = 106 then .int .i64 wt else zd1 j
theorem fX_one (s wt : Int) (j : Nat) : (fX s wt j).oneCell' = true := by
  unfold fX
  split
  · rfl
  · split
    · rfl
    · exact zd1_one j
theorem fX_keys (s wt : Int) : KeysIn (fX s wt) (fun _ _ => 0) := fun q r hq hr => by
  have e : (11 + (q * 5 + r) - 11) % 5 = r := by omega
  unfold fX zd1 zd kval
  rw [if_neg (by omega), if_neg (by omega), if_neg (by omega), if_neg (by omega), if_neg (by omega), if_neg (by omega), e]
theorem zero_right : ∀ q, q < 19 → KRight (fun _ _ => 0) q := fun q _ => by show rightB 0 0 0 0 0 = true; decide
theorem fX_zd1 : fX 1 0 = zd1 := by
  funext j
  unfold fX zd1 zd
  by_cases h : j = 9
  · simp [h]
  · by_cases h2 : j = 106
    · simp [h2]
    · simp [h, h2]
theorem range_at {w : World} {b : Nat} {f : Nat → Value} (h : w.rangeAt b 0 (rowL f)) (j : Nat) (hj : j < 107) : w.cell? ⟨b, j, none⟩ = some (f j) := by
  have := h j _ (rowL_at f j hj)
  rwa [Nat.zero_add] at this
theorem range_put {w : World} {b : Nat} {s wt s' wt' : Int} (h : w.rangeAt b 0 (rowL (fX s wt))) : ((w.setCell ⟨b, 9, none⟩ (.int .i64 s')).setCell ⟨b, 106, none⟩ (.int .i64 wt')).rangeAt b 0 (rowL (fX s' wt')) := fun j v hv => by
  obtain ⟨hj, rfl⟩ := rowL_src _ j v hv
  rw [Nat.zero_add]
  have hc := range_at h j hj
  by_cases h2 : j = 106
  · subst h2
    have hh : (w.setCell ⟨b, 9, none⟩ (.int .i64 s')).cell? ⟨b, 106, none⟩ = some (fX s wt 106) := by
      rw [World.cell?_setCell_other _ _ _ _ (by simp)]
      exact hc
    exact (World.cell?_setCell_same _ _ _ hh).trans (by simp [fX])
  · rw [World.cell?_setCell_other _ _ _ _ (by simp [h2])]
    by_cases h9 : j = 9
    · subst h9
      exact (World.cell?_setCell_same _ _ _ hc).trans (by simp [fX])
    · rw [World.cell?_setCell_other _ _ _ _ (by simp [h9]), hc]
      simp [fX, h9, h2]
theorem dsize_cells (x : Nat) : ∀ (cs : List Value) (o : Nat) (w : World), (w.setCells x o cs).heap.size = w.heap.size := by
  intro cs
  induction cs with
  | nil => intro o w; rfl
  | cons u r ih => intro o w; exact (ih (o + 1) _).trans (by simp)
theorem z_castD : (0 : Int) = ((0 : Nat) : Int) := rfl
end Go.Proofs.YtncopdhhchmpeaaDoor
namespace Go.Proofs.YtncopdhhchmpeaaDoor
open Go.ChangeShapes Go.WideShapes Go.ChangeAt Go.RowKit
set_option linter.unusedVariables false
set_option linter.unusedSimpArgs false
set_option maxRecDepth 100000 in
set_option maxHeartbeats 4000000 in
theorem dget_dead {base P p B G Q n c : Nat} {th : Nat → Bool} {vr_ : Nat → Int} {W : Nat → Nat → Value} (x : Int) (k : Nat) (hx : Hid (x = (k : Int))) (ht : Hid (th k = false)) (w : World) (h : DsAt w base P p B G Q n c th vr_ W) :
    Calls Tryd.prog 13 #[.pointer (some ⟨P, 0, none⟩), .int .i64 x] w fun e w' => e = .returned (.tuple #[.agg (rowL zd).toArray, .bool false]) ∧ Below w.heap.size w w' := by
  have H := Lib.hid h
  clear h
  go_enter Tryd.func13, Tryd.ntmps13
  go_upto_region 1 with fail
  generalize hA : World.alloc w _ = wA
  have HA : Hid (Below w.heap.size w wA ∧ World.there wA w.heap.size 0 107) := Lib.hid (by rw [← hA]; exact ⟨(Below.refl _ _).alloc (Nat.le_refl _) _, dthere_new _ _ _ (by rfl) _⟩)
  clear hA
  have H1 := Lib.hid (H.out.below HA.out.1)
  have f0 := H1.out.pl.f0
  have f1 := H1.out.pl.f1
  go_upto_region 2 with (first
    | (go_at_call 32; (with_reducible refine (athere_dead k x hx ht _ H1.out.pl.ar).mono ?_); rintro e w1 ⟨rfl, rfl⟩))
  have hz : ∀ w : World, (zeroValue 85).run Tryd.prog w = .ok (.agg (rowL zd).toArray) w := fun _ => by kernel_rfl
  go_wp2_with (first
    | (refine wpList_store_mid (by rfl) _ _ _ (by rfl) w.heap.size 0 (rowL zd).toArray (by rfl) (by rfl) HA.out.2 (by rw [rowL_size]; exact infoDomS) (rowL_one zd (fun j _ => zd_one j)) ?_))
  have hr : (wA.setCells w.heap.size 0 (rowL zd).toArray.toList).rangeAt w.heap.size 0 (rowL zd) := World.rangeAt_setCells_same wA w.heap.size 0 (rowL zd) (by rw [rowL_len]; exact HA.out.2)
  have hld := dload hr
  refine bodyPost_ret (v := .tuple #[.agg (rowL zd).toArray, .bool false]) (by simp [results, Tryd.results13, asAddr, hld]) rfl ⟨rfl, dbelow_cells HA.out.1 (Nat.le_refl _) _ _⟩
section
variable {s m d t b f q : Nat} {st : Int}
set_option maxRecDepth 100000 in
set_option maxHeartbeats 4000000 in
theorem slive_start (k1 k2 k3 k4 : Int) (dp dR n c base : Nat) (th : Nat → Bool) (vr : Nat → Int) (r : Bool) (hr : Hid ((thereB n th k1 && (vr k1.toNat == k2)) = r)) (w : World) (hB : SyB w s m d t b f q st) (hP : w.cell? ⟨d, 0, none⟩ = some (.pointer (some ⟨dp, 0, none⟩))) (hA : ArAt w base dp dR n c th vr) :
    Calls Tryd.prog 18 #[.pointer (some ⟨s, 0, none⟩), .agg #[.int .i64 5, .int .i64 k1, .int .i64 k2, .int .i64 k3, .int .u32 k4]] w fun e w' => e = .returned (.bool r) ∧ Below w.heap.size w w' := by
  have HA := Lib.hid (fun W (hW : Below w.heap.size w W) => alive_is k1 k2 r hr W (hA.below hW))
  have HB := Lib.hid hB
  have HP := Lib.hid hP
  have hdl : d < w.heap.size := cell_lt hP
  clear hA hB hP
  go_enter Tryd.func18, Tryd.ntmps18
  go_upto_region 1 with fail
  generalize hA : World.alloc w _ = wA
  obtain ⟨K, hK⟩ : ∃ K, K = w.heap.size := ⟨_, rfl⟩
  have HBa : Hid (Below w.heap.size w wA) := Lib.hid (by rw [← hA]; exact (Below.refl _ _).alloc (Nat.le_refl _) _)
  have kc0 : wA.cell? ⟨K, 0, none⟩ = some (.int .i64 5) := by rw [← hA, hK]; simp
  have kc1 : wA.cell? ⟨K, 1, none⟩ = some (.int .i64 k1) := by rw [← hA, hK]; simp
  have kc2 : wA.cell? ⟨K, 2, none⟩ = some (.int .i64 k2) := by rw [← hA, hK]; simp
  have sc := ((HB.out.below HBa.out).c1)
  have pc := (HBa.out.cell (p := ⟨d, 0, none⟩) hdl).trans HP.out
  rw [← hK]
  clear hA hK hdl
  go_wp2_with fail
  have HA9 := Lib.hid (fun n => HA.out (wA.drewN n) (below_drewN HBa.out n))
  go_quiet ((go_at_call 46; exact kquiet_left (HA9.out _)))
  go_wp2_with fail
  go_ret
  exact ⟨rfl, below_drewN HBa.out _⟩
set_option maxRecDepth 100000 in
set_option maxHeartbeats 4000000 in
theorem skey_dom (x k0 k1 k2 k3 k4 : Int) (w : World) (hB : SyB w s m d t b f q st) (hC : ∀ W, Below w.heap.size w W → Calls Tryd.prog 41 #[.pointer (some ⟨d, 0, none⟩), .int .i64 x] W fun e w' => e = .returned (.agg #[.int .i64 k0, .int .i64 k1, .int .i64 k2, .int .i64 k3, .int .u32 k4]) ∧ Below W.heap.size W w') :
    Calls Tryd.prog 17 #[.pointer (some ⟨s, 0, none⟩), .int .i64 4, .int .i64 x] w fun e w' => e = .returned (.agg #[.int .i64 k0, .int .i64 k1, .int .i64 k2, .int .i64 k3, .int .u32 k4]) ∧ Below w.heap.size w w' := by
  have HC := Lib.hid hC
  have HB := Lib.hid hB
  clear hC hB
  go_enter Tryd.func17, Tryd.ntmps17
  go_upto_region 1 with fail
  generalize hA : World.alloc w _ = wA
  obtain ⟨K, hK⟩ : ∃ K, K = w.heap.size := ⟨_, rfl⟩
  have HBa : Hid (Below w.heap.size w wA) := Lib.hid (by rw [← hA]; exact (Below.refl _ _).alloc (Nat.le_refl _) _)
  have HK0 : Hid (KeyC wA K 0 0 0 0 0) := Lib.hid (by rw [← hA, hK]; exact KeyC.new w 0 0 0 0 0 _)
  have HKl : Hid (w.heap.size ≤ K) := Lib.hid (by rw [hK]; exact Nat.le_refl _)
  have sc := ((HB.out.below HBa.out).c1)
  rw [← hK]
  clear hA hK
  go_wp2_with (first
    | (go_at_call 41; (with_reducible refine (HC.out _ HBa.out).mono ?_); rintro e w1 ⟨rfl, hb⟩; have HB1 := Lib.hid (HBa.out.trans (hb.mono HBa.out.size)); have HK1 := Lib.hid (HK0.out.below hb); have z0 := HK1.out.c0; have z1 := HK1.out.c1; have z2 := HK1.out.c2; have z3 := HK1.out.c3; have z4 := HK1.out.c4; have zf0 := HK1.out.fr 0; have zf1 := HK1.out.fr 1; have zf2 := HK1.out.fr 2; have zf3 := HK1.out.fr 3; have zf4 := HK1.out.fr 4; clear hb))
  have t := HK1.out.set k0 k1 k2 k3 k4
  have t0 := t.c0
  have t1 := t.c1
  have t2 := t.c2
  have t3 := t.c3
  have t4 := t.c4
  refine bodyPost_ret (v := .agg #[.int .i64 k0, .int .i64 k1, .int .i64 k2, .int .i64 k3, .int .u32 k4]) (by simp [results, Tryd.results17, go_sem, t0, t1, t2, t3, t4]) rfl ⟨rfl, ?_⟩
  exact ((((HB1.out.setCell HKl.out _).setCell HKl.out _).setCell HKl.out _).setCell HKl.out _).setCell HKl.out _
set_option maxRecDepth 100000 in
set_option maxHeartbeats 4000000 in
theorem skey_resume (x k0 k1 k2 k3 k4 : Int) (w : World) (hB : SyB w s m d t b f q st) (hC : ∀ W, Below w.heap.size w W → Calls Tryd.prog 42 #[.pointer (some ⟨d, 0, none⟩), .int .i64 x] W fun e w' => e = .returned (.agg #[.int .i64 k0, .int .i64 k1, .int .i64 k2, .int .i64 k3, .int .u32 k4]) ∧ Below W.heap.size W w') :
    Calls Tryd.prog 17 #[.pointer (some ⟨s, 0, none⟩), .int .i64 6, .int .i64 x] w fun e w' => e = .returned (.agg #[.int .i64 k0, .int .i64 k1, .int .i64 k2, .int .i64 k3, .int .u32 k4]) ∧ Below w.heap.size w w' := by
  have HC := Lib.hid hC
  have HB := Lib.hid hB
  clear hC hB
  go_enter Tryd.func17, Tryd.ntmps17
  go_upto_region 1 with fail
  generalize hA : World.alloc w _ = wA
  obtain ⟨K, hK⟩ : ∃ K, K = w.heap.size := ⟨_, rfl⟩
  have HBa : Hid (Below w.heap.size w wA) := Lib.hid (by rw [← hA]; exact (Below.refl _ _).alloc (Nat.le_refl _) _)
  have HK0 : Hid (KeyC wA K 0 0 0 0 0) := Lib.hid (by rw [← hA, hK]; exact KeyC.new w 0 0 0 0 0 _)
  have HKl : Hid (w.heap.size ≤ K) := Lib.hid (by rw [hK]; exact Nat.le_refl _)
  have sc := ((HB.out.below HBa.out).c1)
  rw [← hK]
  clear hA hK
  go_wp2_with (first
    | (go_at_call 42; (with_reducible refine (HC.out _ HBa.out).mono ?_); rintro e w1 ⟨rfl, hb⟩; have HB1 := Lib.hid (HBa.out.trans (hb.mono HBa.out.size)); have HK1 := Lib.hid (HK0.out.below hb); have z0 := HK1.out.c0; have z1 := HK1.out.c1; have z2 := HK1.out.c2; have z3 := HK1.out.c3; have z4 := HK1.out.c4; have zf0 := HK1.out.fr 0; have zf1 := HK1.out.fr 1; have zf2 := HK1.out.fr 2; have zf3 := HK1.out.fr 3; have zf4 := HK1.out.fr 4; clear hb))
  have t := HK1.out.set k0 k1 k2 k3 k4
  have t0 := t.c0
  have t1 := t.c1
  have t2 := t.c2
  have t3 := t.c3
  have t4 := t.c4
  refine bodyPost_ret (v := .agg #[.int .i64 k0, .int .i64 k1, .int .i64 k2, .int .i64 k3, .int .u32 k4]) (by simp [results, Tryd.results17, go_sem, t0, t1, t2, t3, t4]) rfl ⟨rfl, ?_⟩
  exact ((((HB1.out.setCell HKl.out _).setCell HKl.out _).setCell HKl.out _).setCell HKl.out _).setCell HKl.out _
end
end Go.Proofs.YtncopdhhchmpeaaDoor
