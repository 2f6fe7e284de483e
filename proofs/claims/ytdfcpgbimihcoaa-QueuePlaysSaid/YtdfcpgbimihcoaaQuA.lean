/-
  QueueAll.
-/
import Derived.Test.YtdfcpgbimihcoaaQuO
namespace Go.Proofs.Ytdfcpgbimihcoaa
open Go.ChangeShapes Go.WideShapes Go.ChangeAt Go.RowKit Go.Maps
set_option linter.unusedVariables false
theorem infoBool : (Try.prog.info? 4).map (fun i => (i.zero, i.size, i.bytes)) = some (some (.bool false), 1, 1) := by kernel_rfl
def updB (f : Nat → Bool) (i : Nat) (x : Bool) : Nat → Bool := fun j => if j = i then x else f j
/-- A row of bools of the law's own. -/
def FR (w : World) (base F n : Nat) (fr : Nat → Bool) : Prop := w.ownsRow base 4 1 (.slice (some ⟨F, 0, none⟩) n n) n ((List.range n).map fun i => Value.bool (fr i))
section
variable {w w' : World} {base F n : Nat} {fr : Nat → Bool}
theorem FR.at (h : FR w base F n fr) (k : Nat) (hk : k < n) : w.cell? ⟨F, k, none⟩ = some (.bool (fr k)) := by
  have := World.ownsRow.cellAt h k (by omega)
  rw [this]
  simp [hk]
theorem FR.lt (h : FR w base F n fr) : base ≤ F ∧ F < w.heap.size := World.ownsRow.lt h F rfl
theorem FR.free (h : FR w base F n fr) (k : Nat) : w.frozen? ⟨F, k, none⟩ = false := World.ownsRow.frozenAt h k
theorem FR.same (h : FR w base F n fr) (hb : w'.heap[F]? = w.heap[F]?) : FR w' base F n fr := own_same h fun g hg => by
  simp [Value.ownBlock] at hg
  rw [← hg]
  exact hb
theorem FR.set (h : FR w base F n fr) (k : Nat) (hk : k < n) (x : Bool) : FR (w.setCell ⟨F, k, none⟩ (.bool x)) base F n (updB fr k x) := by
  have hs := World.ownsRow.stored h k (.bool x)
  unfold FR
  have e : ((List.range n).map fun i => Value.bool (updB fr k x i)) = ((List.range n).map fun i => Value.bool (fr i)).set k (.bool x) := by
    apply List.ext_getElem?
    intro j
    by_cases hj : j < n
    · by_cases e : j = k
      · subst e
        simp [updB, hj]
      · rw [List.getElem?_set_ne (by omega)]
        simp [updB, e, hj]
    · rw [List.getElem?_eq_none (by simp; omega), List.getElem?_eq_none (by simp; omega)]
  rw [e]
  exact hs.1
end
theorem QV.grow {W w w' : World} {base q b : Nat} {l : List Int} {S : Nat → Prop} {row : Option Nat} (h : QV W w base q b l S) (hg : w.grownBy w' row) (hr : ∀ g, row = some g → ¬ S g ∧ W.heap.size ≤ g) : QV W w' base q b l S :=
  ⟨h.bel.grown hg h.bel.size (fun g e => (hr g e).2), h.wb, Nat.le_trans h.bs hg.size, h.qi.same fun k hk => hg.block k (h.qi.hi k hk) (fun e => (hr k e.symm).1 hk)⟩
/-- 0, 2, 4 .. -/
def evens (k : Nat) : List Int := (List.range k).map fun j : Nat => 2 * (j : Int)
theorem evens_len (k : Nat) : (evens k).length = k := by simp [evens]
theorem evens_succ (k : Nat) : evens (k + 1) = evens k ++ [2 * (k : Int)] := by simp [evens, List.range_succ]
theorem evens_mem (k : Nat) (x : Int) (h : x ∈ evens k) : ∃ j, j < k ∧ x = 2 * (j : Int) := by
  simp [evens] at h
  obtain ⟨j, h1, h2⟩ := h
  exact ⟨j, h1, h2.symm⟩
theorem evens_not (k : Nat) : (evens k).contains (2 * (k : Int)) = false := by
  rw [← Bool.not_eq_true, List.contains_iff_mem]
  intro h
  obtain ⟨j, h1, h2⟩ := evens_mem _ _ h
  omega
theorem putAll_evens (k : Nat) : putAll [] (evens k) = evens k := by
  induction k with
  | zero => rfl
  | succ k ih => rw [evens_succ, putAll_snoc, ih, if_neg (by rw [evens_not]; simp)]
theorem putAll_in (l ms : List Int) (h : ∀ x ∈ ms, x ∈ l) : putAll l ms = l := by
  induction ms with
  | nil => rfl
  | cons x ms ih =>
    have e : putAll l (x :: ms) = putAll (if l.contains x then l else l ++ [x]) ms := rfl
    rw [e, if_pos (by rw [List.contains_iff_mem]; exact h x (.head _))]
    exact ih fun y hy => h y (.tail _ hy)
theorem evens_fit (k : Nat) (hk : k ≤ 1000) : ∀ x ∈ evens k, wfI x := by
  intro x hx
  obtain ⟨j, h1, rfl⟩ := evens_mem _ _ hx
  exact wfI.mk (by omega) (by omega)
theorem owns_any {w : World} {B E s n : Nat} {v : Value} {xs : List Value} (h : w.ownsRow B E s v n xs) : ∃ a c, v = .slice a n c := by
  rcases h.2 with ⟨rfl, h0⟩ | ⟨g, cap, cur, rfl, _⟩
  · exact ⟨none, 0, by rw [h0]⟩
  · exact ⟨_, _, rfl⟩
theorem src_row {w : World} {B n c : Nat} {a : Option Addr} {xs : List Int} {S : Nat → Prop} (h : w.ownsRow B 3 1 (.slice a n c) n (xs.map (Value.int .i64))) (hn : xs.length = n) (hv : ∀ x ∈ xs, wfI x) (hS : ∀ k, B ≤ k → ¬ S k) : Src w a xs S := by
  refine ⟨hv, fun hz => ?_⟩
  have hp : 0 < xs.length := List.length_pos_iff.2 hz
  obtain ⟨ad, h1, h2, _⟩ := own_ri h hn 0 hp
  refine ⟨ad, h1, h2, hS _ (h.lt _ (by rw [h1]; rfl)).1, fun i hi => ?_⟩
  obtain ⟨ad', h1', _, h3⟩ := own_ri h hn i hi
  obtain rfl : ad' = ad := by rw [h1] at h1'; injection h1' with e; exact e.symm
  exact h3
/-- The law's state while all are picked. -/
structure AR (W w : World) (q b F n k : Nat) : Prop where
  ex : ∃ (l : List Int) (S : Nat → Prop) (sn : Nat → Bool), QV W w q q b l S ∧ l.length = n - k ∧ (∀ x ∈ l, ∃ j, j < n ∧ x = 2 * (j : Int)) ∧ FR w W.heap.size F (2 * n + 1) sn ∧ (∀ x ∈ l, sn x.toNat = false) ∧ ¬ S F
theorem AR.next {W w w' : World} {q b F n k r y : Nat} {l : List Int} {S S' : Nat → Prop} {sn : Nat → Bool} (h : QV W w q q b l S) (hl : l.length = n - k) (he : ∀ x ∈ l, ∃ j, j < n ∧ x = 2 * (j : Int)) (hf : FR w W.heap.size F (2 * n + 1) sn) (hs : ∀ x ∈ l, sn x.toNat = false) (hF : ¬ S F)
    (hk : k < n) (hr : r < l.length) (hy : l.getD r 0 = (y : Int)) (hyn : y < 2 * n) (hq : QI w' q q b (l.eraseIdx r) S') (hfr : QFr w w' S S') : FR w' W.heap.size F (2 * n + 1) sn ∧ QV W w' q q b (l.eraseIdx r) S' ∧ AR W (w'.setCell ⟨F, y, none⟩ (.bool true)) q b F n (k + 1) := by
  have hb := hfr.block F hf.lt.2 hF
  have h1 := hf.same hb.1
  have h2 := h.turn hq hfr
  refine ⟨h1, h2, ⟨l.eraseIdx r, S', updB sn y true, h2.grow (grown_cell w' F y (.bool true)) (fun g e => ?_), by rw [List.length_eraseIdx_of_lt hr]; omega, fun x hx => he x (List.mem_of_mem_eraseIdx hx), h1.set y (by omega) true, fun x hx => ?_, hb.2⟩⟩
  · injection e with e
    rw [← e]
    exact ⟨hb.2, hf.lt.1⟩
  · have hc : (l.eraseIdx r).contains x = true := List.contains_iff_mem.2 hx
    rw [erase_has l r hr h.qi.nd x, hy] at hc
    simp only [Bool.and_eq_true, Bool.not_eq_true', decide_eq_false_iff_not] at hc
    have hx2 := List.mem_of_mem_eraseIdx hx
    obtain ⟨j, hj, rfl⟩ := he x hx2
    have := hs _ hx2
    unfold updB
    rw [if_neg (by omega)]
    exact this
set_option maxRecDepth 100000 in
theorem all_big (n0 : Int) (a : Option Addr) (len cap : Nat) (g1 : -9223372036854775808 ≤ n0) (g2 : n0 ≤ 9223372036854775807) (hl : 20 < len) (hm : len ≤ 9223372036854775807) (w : World) :
    Calls Try.prog 6 #[.int .i64 n0, .slice a len cap] w fun e w' => e = .returned (.bool true) ∧ Below w.heap.size w w' := by
  obtain ⟨R, hR, CR⟩ := number_nat n0 20 20 rfl (by decide) (by decide) g1 g2
  have CR' := Lib.hid CR
  clear CR g1 g2
  have hd : decide ((20 : Int) < (len : Int)) = true := by simp; omega
  go_enter Try.func6, Try.ntmps6
  go_wp2_with (first
    | (go_at_call 8; refine (qfirst_is _).mono ?_; rintro e w1 ⟨rfl, hb1⟩; have HB1 := Lib.hid hb1; clear hb1)
    | (go_at_call 12; (with_reducible refine (CR'.out _).mono ?_); rintro e w2 ⟨rfl, rfl⟩))
  go_ret
  exact ⟨rfl, HB1.out⟩
/-- The first loop's state. -/
structure ER (W w : World) (q k : Nat) (v : Value) : Prop where
  qv : QV W w q q 0 [] (SN q)
  row : w.ownsRow (q + 1) 3 1 v k ((evens k).map (Value.int .i64))
theorem ER.next {W w w' : World} {q k : Nat} {v v' : Value} {o : Obj} (h : ER W w q k v) (hr : w'.ownsRow (q + 1) 3 1 v' (k + 1) ((evens k).map (Value.int .i64) ++ [.int .i64 (2 * (k : Int))])) (hg : (w.alloc o).grownBy w' v.ownBlock) : ER W w' q (k + 1) v' := by
  refine ⟨(h.qv.step ((Below.refl _ _).alloc (Nat.le_refl _) o)).grow hg (fun g e => ?_), by rw [evens_succ, List.map_append]; exact hr⟩
  have h1 := (h.row.lt g e).1
  have h2 := h.qv.wb
  exact ⟨fun hs => by have : g = q := hs; omega, by omega⟩
set_option maxRecDepth 100000 in
set_option maxHeartbeats 8000000 in
theorem all_small (n0 : Int) (a : Option Addr) (len cap : Nat) (zs : List Int) (g1 : -9223372036854775808 ≤ n0) (g2 : n0 ≤ 9223372036854775807) (hz : Hid (zs.length = len)) (hl : len ≤ 20) (w : World) (hr : RI w a zs) (hv : ∀ x ∈ zs, wfI x) :
    Calls Try.prog 6 #[.int .i64 n0, .slice a len cap] w fun e w' => e = .returned (.bool true) ∧ Below w.heap.size w w' := by
  obtain ⟨R, hR, CR⟩ := number_nat n0 20 20 rfl (by decide) (by decide) g1 g2
  have CR' := Lib.hid CR
  have HR := Lib.hid hr
  have HV := Lib.hid hv
  clear CR g1 g2 hr hv
  have hd : decide ((20 : Int) < (len : Int)) = false := by simp; omega
  obtain ⟨i0, hi, hz0, hz1, hz2⟩ := info_parts infoInt
  have HI := Lib.hid (⟨hi, hz0, hz1, hz2⟩ : Try.prog.info? 3 = some i0 ∧ i0.zero = some (.int .i64 0) ∧ i0.size = 1 ∧ i0.bytes = 8)
  clear hi hz0 hz1 hz2
  obtain ⟨i1, hi, hz0, hz1, hz2⟩ := info_parts infoBool
  have HJ := Lib.hid (⟨hi, hz0, hz1, hz2⟩ : Try.prog.info? 4 = some i1 ∧ i1.zero = some (.bool false) ∧ i1.size = 1 ∧ i1.bytes = 1)
  clear hi hz0 hz1 hz2
  go_enter Try.func6, Try.ntmps6
  go_wp2_with (first
    | (go_at_call 8; refine (qfirst_is _).mono ?_; rintro e w1 ⟨rfl, hb1⟩; have HQ0 := Lib.hid (QV.begun hb1); clear hb1)
    | (go_at_call 12; (with_reducible refine (CR'.out _).mono ?_); rintro e w2 ⟨rfl, rfl⟩))
  obtain ⟨q, hq⟩ : ∃ q, q = w1.heap.size := ⟨_, rfl⟩
  have HE0 : Hid (ER w (w1.alloc (.cells #[.slice none 0 0, .map none] 27)) q 0 (.slice none 0 0)) := Lib.hid ⟨by rw [hq]; exact HQ0.out, World.ownsRow_nil _ _ _ _⟩
  rw [← hq]
  clear hq HQ0
  go_loopw [7, 8] (fun v i wr => ∃ k : Nat, k ≤ R ∧ i = .int .i64 k ∧ ER w wr q k v) (fun _ i _ => R - (intOf i).toNat)
  case atStart => exact ⟨0, by omega, rfl, HE0.out⟩
  case round =>
    obtain ⟨k, hk, rfl, hE⟩ := hrel
    have HE := Lib.hid hE
    clear hE
    by_cases hlt : k < R
    · go_wp2_with (first | (at_builtin; refine wpList_append_own _ rfl _ _ 24 rfl (q + 1) 3 i0 (.int .i64 0) 1 8 Try.underlying24 HI.out.1 HI.out.2.1 HI.out.2.2.1 HI.out.2.2.2 rfl (by decide) _ _ _ rfl (HE.out.row.alloc _) ⟨wr.heap.size, 0, none⟩ 1 1 [.int .i64 (2 * (k : Int))] rfl rfl (cell_one_new _ _ _) (ints_oneCell .i64 [2 * (k : Int)]) (by unfold maxLen; omega) (by omega) (by have := HE.out.qv.qi.hi q rfl; simp; omega) ?_))
      intro v' w2 hown' hgrow' _
      have HE2 := Lib.hid (HE.out.next hown' hgrow')
      clear hown' hgrow'
      go_wp2
      go_roundw
      case rel => exact ⟨k + 1, by omega, by go_num, HE2.out⟩
      case measure => simp [intOf]; omega
    · obtain rfl : R = k := by omega
      have hdd : decide (R < R) = false := by simp
      obtain ⟨al, cl, hvl⟩ := owns_any HE.out.row
      subst hvl
      have HS1 := Lib.hid (src_row HE.out.row (evens_len R) (evens_fit R (by omega)) (S := SN q) (fun k hk hs => by have : k = q := hs; omega))
      go_wp2_with (first
        | (go_at_call 10; (with_reducible refine (qput_is al R cl (evens R) (Lib.hid (evens_len R)) (by omega) (by simp) (by omega) (R : Int) (Lib.hid (by rw [putAll_evens, evens_len]; simp)) _ HE.out.qv.qi HS1.out HE.out.qv.bs).mono ?_); rintro e w3 ⟨S3, rfl, h3, f3⟩; rw [putAll_evens] at h3; have HS3 := Lib.hid (HS1.out.kept f3); have HQ3 := Lib.hid (HE.out.qv.turn h3 f3); clear h3 f3)
        | (go_at_call 10; (with_reducible refine (qput_is al R cl (evens R) (Lib.hid (evens_len R)) (by omega) (by rw [evens_len]; omega) (by omega) 0 (Lib.hid (by rw [putAll_in _ _ (fun x hx => hx)]; simp)) _ HQ3.out.qi HS3.out HQ3.out.bs).mono ?_); rintro e w4 ⟨S4, rfl, h4, f4⟩; rw [putAll_in _ _ (fun x hx => hx)] at h4; have HQ4 := Lib.hid (HQ3.out.turn h4 f4); clear h4 f4)
        | (at_make; refine wpList_make_full _ rfl _ _ 43 rfl w.heap.size 4 i1 (.bool false) 1 Try.underlying43 HJ.out.1 HJ.out.2.1 HJ.out.2.2.1 .i64 .i64 _ _ (2 * R + 1) rfl rfl rfl rfl ?b2 ?b3 ?b4 ?_))
      case b2 => rw [HJ.out.2.2.2]; omega
      case b3 => unfold maxLen; omega
      case b4 => exact HQ4.out.bel.size
      intro w5 hown hgrow
      obtain ⟨F, hF⟩ : ∃ F, F = w4.heap.size := ⟨_, rfl⟩
      have HA : Hid (AR w w5 q (0 + R + R) F R 0) := Lib.hid (by
        have hf : FR w5 w.heap.size w4.heap.size (2 * R + 1) (fun _ => false) := by
          unfold FR
          have e : ((List.range (2 * R + 1)).map fun i => Value.bool ((fun _ => false : Nat → Bool) i)) = (madeCells #[Value.bool false] (2 * R + 1)).toList := by
            rw [toList_madeCells_one]
            simp [List.map_const']
          rw [e]
          exact hown
        rw [hF]
        exact ⟨⟨evens R, S4, fun _ => false, HQ4.out.grow hgrow (fun g e => by cases e), by rw [evens_len]; omega, fun x hx => evens_mem _ _ hx, hf, fun _ _ => rfl, HQ4.out.new⟩⟩)
      clear hown hgrow
      rw [← hF]
      clear hF
      go_wp2_with fail
      go_loopw [10] (fun i wr => ∃ k : Nat, k ≤ R ∧ i = .int .i64 k ∧ AR w wr q (0 + R + R) F R k) (fun i _ => R - (intOf i).toNat)
      case atStart => exact ⟨0, by omega, rfl, HA.out⟩
      case round =>
        obtain ⟨k, hk, rfl, hA⟩ := hrel
        obtain ⟨l, S, sn, hq, hln, hle, hfr, hsn, hnF⟩ := hA.ex
        obtain ⟨m, HM⟩ : ∃ m, Hid (l.length = m) := ⟨_, Lib.hid rfl⟩
        have HQ := Lib.hid hq
        have hmk : m = R - k := by rw [← HM.out]; exact hln
        have HX := Lib.hid (⟨hln, hle, hfr, hsn, hnF⟩ : l.length = R - k ∧ (∀ x ∈ l, ∃ j, j < R ∧ x = 2 * (j : Int)) ∧ FR wr w.heap.size F (2 * R + 1) sn ∧ (∀ x ∈ l, sn x.toNat = false) ∧ ¬ S F)
        clear hA hq hln hle hfr hsn hnF
        by_cases hlt : k < R
        · have hm0 : 0 < m := by omega
          have pick : ∀ cc : Int, -9223372036854775808 ≤ cc → cc ≤ 9223372036854775807 → ∃ r y : Nat, y < 2 * R ∧ ((y : Int) % 2 = 0) ∧ sn y = false ∧ r < l.length ∧ l.getD r 0 = (y : Int) ∧ Hid (∀ W, QV w W q q (0 + R + R) l S → Calls Try.prog 11 #[.pointer (some ⟨q, 0, none⟩), .int .i64 cc] W fun e w' => e = .returned (.tuple #[.int .i64 y, .bool true]) ∧ ∃ S', QI w' q q (0 + R + R) (l.eraseIdx r) S' ∧ QFr W w' S S') := by
            intro cc c1 c2
            have e0 := Int.emod_nonneg cc (show (m : Int) ≠ 0 by omega)
            have e1 := Int.emod_lt_of_pos cc (show (0 : Int) < m by omega)
            have hr : (cc % (m : Int)).toNat < l.length := by rw [HM.out]; omega
            have hmem : l.getD (cc % (m : Int)).toNat 0 ∈ l := by simp [List.getD, hr]
            obtain ⟨j, hj, hje⟩ := HX.out.2.1 _ hmem
            have hsy := HX.out.2.2.2.1 _ hmem
            refine ⟨(cc % (m : Int)).toNat, 2 * j, by omega, by omega, ?_, hr, by rw [hje]; simp, Lib.hid fun W hW => ?_⟩
            · rw [hje] at hsy
              have e : (2 * (j : Int)).toNat = 2 * j := by omega
              rwa [e] at hsy
            · exact qpick_some cc c1 c2 HM hm0 (by omega) _ (Lib.hid (by omega)) _ (Lib.hid (by rw [hje]; simp)) W hW.qi
          by_cases hkl : k < len
          · obtain ⟨ad, rfl, _, hc⟩ := (HR.out.below HQ.out.bel) k (by rw [hz.out]; exact hkl)
            have hzf : wfI (zs.getD k 0) := HV.out _ (by have : k < zs.length := by { rw [hz.out]; exact hkl }; simp [List.getD, this])
            generalize zs.getD k 0 = z at hc hzf
            obtain ⟨r, y, hy1, hy2, hsy, hr, hyl, CP⟩ := pick z hzf.fit.1 hzf.fit.2
            have k0 : (0 : Int) ≤ k := by omega
            have k1 : (k : Int) < len := by omega
            have HYL := Lib.hid hyl
            have HSY := Lib.hid hsy
            have y0 : (0 : Int) ≤ y := by omega
            have y1 : (y : Int) < 2 * (R : Int) := by omega
            have y2 : (y : Int) < 2 * (R : Int) + 1 := by omega
            clear pick hyl hsy
            go_wp2_with (first
              | (go_at_call 11; (with_reducible refine (CP.out _ HQ.out).mono ?_); rintro e w6 ⟨rfl, S6, h6, f6⟩; have HN := Lib.hid (AR.next HQ.out HX.out.1 HX.out.2.1 HX.out.2.2.1 HX.out.2.2.2.1 HX.out.2.2.2.2 hlt hr HYL.out hy1 h6 f6); have hcF := HN.out.1.at y (by omega); rw [HSY.out] at hcF; have hzF := HN.out.1.free y; clear h6 f6))
            go_roundw
            case rel => exact ⟨k + 1, by omega, by go_num, HN.out.2.2⟩
            case measure => simp [intOf]; omega
          · obtain ⟨r, y, hy1, hy2, hsy, hr, hyl, CP⟩ := pick 3 (by decide) (by decide)
            have HYL := Lib.hid hyl
            have HSY := Lib.hid hsy
            have y0 : (0 : Int) ≤ y := by omega
            have y1 : (y : Int) < 2 * (R : Int) := by omega
            have y2 : (y : Int) < 2 * (R : Int) + 1 := by omega
            clear pick hyl hsy
            go_wp2_with (first
              | (go_at_call 11; (with_reducible refine (CP.out _ HQ.out).mono ?_); rintro e w6 ⟨rfl, S6, h6, f6⟩; have HN := Lib.hid (AR.next HQ.out HX.out.1 HX.out.2.1 HX.out.2.2.1 HX.out.2.2.2.1 HX.out.2.2.2.2 hlt hr HYL.out hy1 h6 f6); have hcF := HN.out.1.at y (by omega); rw [HSY.out] at hcF; have hzF := HN.out.1.free y; clear h6 f6))
            go_roundw
            case rel => exact ⟨k + 1, by omega, by go_num, HN.out.2.2⟩
            case measure => simp [intOf]; omega
        · obtain rfl : R = k := by omega
          have hdd : decide (R < R) = false := by simp
          have hl0 : l = [] := List.length_eq_zero_iff.1 (by rw [HM.out]; omega)
          subst hl0
          clear hlt hmk
          go_wp2_with (first
            | (go_at_call 11; (with_reducible refine (qpick_none 0 _ HQ.out.qi).mono ?_); rintro e w2 ⟨rfl, rfl⟩)
            | (go_at_call 16; (with_reducible refine (qlen_v HQ.out 0 (Lib.hid rfl)).mono ?_); rintro e w3 ⟨rfl, rfl⟩))
          go_ret
          exact ⟨rfl, HQ.out.bel⟩
theorem walk_QueueAll (a0 : Int) (a1 : Option Addr) (len1 cap1 : Nat) (z1 : List Int) (w : World) (w0 : (Lit.int .i64 a0).wf = true) (w1 : IsRow .i64 w a1 len1 cap1 z1) :
    Calls Try.prog 6 #[.int .i64 a0, .slice a1 len1 cap1] w fun e w' => e = .returned (.bool true) ∧ Below w.heap.size w w' := by
  obtain ⟨xs, h1, h2, h3, h4⟩ := ri_row w1
  by_cases hl : 20 < len1
  · exact all_big a0 a1 len1 cap1 (wfI.fit w0).1 (wfI.fit w0).2 hl h4 w
  · exact all_small a0 a1 len1 cap1 xs (wfI.fit w0).1 (wfI.fit w0).2 (Lib.hid h1) (by omega) w h2 h3
end Go.Proofs.Ytdfcpgbimihcoaa
