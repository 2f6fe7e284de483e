/-
  key.Text of any right key.
-/
import Derived.Test.YtggnaalcdekccaaDoorKeyTx
import Derived.Lib.AppendIntMem
namespace Go.Proofs.YtggnaalcdekccaaDoor
open Go.ChangeShapes Go.WideShapes Go.ChangeAt Go.RowKit
set_option linter.unusedVariables false
/-- What the texts are made of: the errors' and the names' cells, the table of tens. -/
structure Tx (vs vr : Value) (w : World) : Prop where
  errs : ErrsAt vs vr w
  names : Names w
  tab : Lib.TabIs Tryd.prog w "internal/strconv.uint64pow10" .u64 Lib.pow10Tab
theorem Tx.below {vs vr : Value} {w w' : World} (h : Tx vs vr w) (hb : Below w.heap.size w w') : Tx vs vr w' :=
  ⟨h.errs.below hb, h.names.below hb, Lib.tabBelow_of_tabIs h.tab w' hb⟩
def nmS (k : Int) : ByteArray := ⟨(knL.getD k.toNat []).toArray⟩
def decS (n : Int) : ByteArray := ⟨(Lib.decDigits n.toNat).toArray⟩
theorem nm_opaque (j : Nat) (hj : j < 15) : ∃ s : ByteArray, Hid (s = nmS j) ∧ s.size ≤ 10 := by
  refine ⟨_, Lib.hid rfl, ?_⟩
  have : ∀ i : Fin 15, (nmS (i.val : Int)).size ≤ 10 := by decide +kernel
  exact this ⟨j, hj⟩
theorem dec_size (u : Nat) (hu : u < 18446744073709551616) : (decS u).size ≤ 20 := by
  show (Lib.decDigits (u : Int).toNat).toArray.size ≤ 20
  rw [show (u : Int).toNat = u by omega]
  simp only [List.size_toArray, Lib.decDigits_length]
  by_cases h : 1 ≤ u
  · have := Lib.numDigits_eq u h hu; split at this <;> omega
  · obtain rfl : u = 0 := by omega
    decide +kernel
theorem decimal_op (u : Nat) (hu : u < 4294967296) (w : World) (htab : Lib.TabIs Tryd.prog w "internal/strconv.uint64pow10" .u64 Lib.pow10Tab) :
    Calls Tryd.prog 52 #[.int .u32 u] w fun e w' => ∃ d : ByteArray, e = .returned (.string d) ∧ Hid (d = decS u) ∧ d.size ≤ 20 ∧ Below w.heap.size w w' :=
  (decimal_any u hu w htab).mono fun e w' ⟨he, hb⟩ => ⟨decS u, he, Lib.hid rfl, dec_size u (by omega), hb⟩
theorem itoa_op (n : Nat) (hn : n < 9223372036854775808) (w : World) (htab : Lib.TabIs Tryd.prog w "internal/strconv.uint64pow10" .u64 Lib.pow10Tab) :
    Calls Tryd.prog 53 #[.int .i64 n] w fun e w' => ∃ d : ByteArray, e = .returned (.string d) ∧ Hid (d = decS n) ∧ d.size ≤ 20 ∧ Below w.heap.size w w' :=
  (itoa_any n hn w htab).mono fun e w' ⟨he, hb⟩ => ⟨decS n, he, Lib.hid rfl, dec_size n (by omega), hb⟩
theorem lack_size (r : Int) (h0 : 0 ≤ r) (h7 : r ≤ 7) : (lackT r).size ≤ 20 := by
  obtain rfl | rfl | rfl | rfl | rfl | rfl | rfl | rfl : r = 0 ∨ r = 1 ∨ r = 2 ∨ r = 3 ∨ r = 4 ∨ r = 5 ∨ r = 6 ∨ r = 7 := by omega
  all_goals decide +kernel
theorem lack_op (r : Int) (h0 : 0 ≤ r) (h7 : r ≤ 7) (w : World) : Calls Tryd.prog 54 #[.int .i64 r] w fun e w' => ∃ d : ByteArray, e = .returned (.string d) ∧ Hid (d = lackT r) ∧ d.size ≤ 20 ∧ w = w' :=
  (klacks_any r h0 h7 w).mono fun e w' ⟨he, hw⟩ => ⟨lackT r, he, Lib.hid rfl, lack_size r h0 h7, hw⟩
set_option maxRecDepth 100000 in
theorem ktext_num (vs vr : Value) (k1 k2 k3 : Int) (u : Nat) (hu : u < 4294967296) (h : Hid (rightB 1 k1 k2 k3 u = true)) (w : World) (hT : Tx vs vr w) :
    Calls Tryd.prog 37 #[.agg #[.int .i64 1, .int .i64 k1, .int .i64 k2, .int .i64 k3, .int .u32 u]] w fun e w' => e = .returned (.string (nmS 1 ++ ⟨#[32]⟩ ++ decS u)) ∧ Below w.heap.size w w' := by
  obtain ⟨s, es, hsz⟩ := nm_opaque 1 (by decide)
  have S0 := Lib.hid (startSP w 1 k1 k2 k3 u)
  have HT := Lib.hid (hT.below S0.out.1)
  clear hT
  go_enter Tryd.func37, Tryd.ntmps37
  go_wp2_with (first
    | (go_at_call 32; refine (kvalid_ok 1 k1 k2 k3 u vs vr h _ HT.out.errs).mono ?_; rintro e w1 ⟨rfl, hb⟩; have hS := keepSP 1 k1 k2 k3 u S0.out hb; have hK := hS.2; have hn1 := (HT.out.below hb).names.2 1 (by decide); replace hn1 := hn1.trans (congrArg (fun x => some (Value.string x)) es.out.symm); have ht1 := Lib.hid (HT.out.below hb).tab; have hB := Lib.hid hS.1; clear hb hS)
    | (go_at_call 52; refine (decimal_op u hu _ ht1.out).mono ?_; rintro e w2 ⟨d, rfl, ed, hd, hb2⟩))
  go_ret
  refine ⟨ret_str (by rw [es.out, ed.out]; rfl), hB.out.trans (hb2.mono hB.out.size)⟩
set_option maxRecDepth 100000 in
theorem ktext_plain (vs vr : Value) (j : Nat) (hj : j < 15) (hj1 : j ≠ 1) (hp : placesOf j = 0) (k1 k2 k3 : Int) (u : Nat) (hu : u < 4294967296) (h : Hid (rightB j k1 k2 k3 u = true)) (w : World) (hT : Tx vs vr w) :
    Calls Tryd.prog 37 #[.agg #[.int .i64 j, .int .i64 k1, .int .i64 k2, .int .i64 k3, .int .u32 u]] w fun e w' => e = .returned (.string (nmS j)) ∧ Below w.heap.size w w' := by
  obtain ⟨s, es, hsz⟩ := nm_opaque j hj
  have S0 := Lib.hid (startSP w j k1 k2 k3 u)
  have HT := Lib.hid (hT.below S0.out.1)
  have hne : ((j : Int) == 1) = false := beq_eq_false_iff_ne.2 (by omega)
  clear hT
  go_enter Tryd.func37, Tryd.ntmps37
  go_wp2_with (first
    | (go_at_call 32; refine (kvalid_ok j k1 k2 k3 u vs vr h _ HT.out.errs).mono ?_; rintro e w1 ⟨rfl, hb⟩; have hS := keepSP j k1 k2 k3 u S0.out hb; have hK := hS.2; have hn1 := (HT.out.below hb).names.2 j hj; replace hn1 := hn1.trans (congrArg (fun x => some (Value.string x)) es.out.symm); have ht1 := Lib.hid (HT.out.below hb).tab; have hB := Lib.hid hS.1; clear hb hS)
    | (go_at_call 49; refine (kplaces_is j 0 hp _).mono ?_; rintro e w2 ⟨rfl, rfl⟩))
  go_ret
  exact ⟨ret_str es.out, hB.out⟩
theorem cat0 (x a b c d : ByteArray) : x ++ (a ++ b ++ c ++ d) = x ++ a ++ b ++ c ++ d := by simp only [ByteArray.append_assoc]
theorem keepT {w W w' : World} (j i v k3 u : Int) (h : Lib.TabIs Tryd.prog W "internal/strconv.uint64pow10" .u64 Lib.pow10Tab ∧ Below w.heap.size w W ∧ w.heap.size < W.heap.size ∧ W.cell? ⟨w.heap.size, 0, none⟩ = some (.int .i64 j) ∧ W.cell? ⟨w.heap.size, 1, none⟩ = some (.int .i64 i) ∧ W.cell? ⟨w.heap.size, 2, none⟩ = some (.int .i64 v) ∧ W.cell? ⟨w.heap.size, 3, none⟩ = some (.int .i64 k3) ∧ W.cell? ⟨w.heap.size, 4, none⟩ = some (.int .u32 u)) (hb : Below W.heap.size W w') : Lib.TabIs Tryd.prog w' "internal/strconv.uint64pow10" .u64 Lib.pow10Tab ∧ Below w.heap.size w w' ∧ w.heap.size < w'.heap.size ∧ w'.cell? ⟨w.heap.size, 0, none⟩ = some (.int .i64 j) ∧ w'.cell? ⟨w.heap.size, 1, none⟩ = some (.int .i64 i) ∧ w'.cell? ⟨w.heap.size, 2, none⟩ = some (.int .i64 v) ∧ w'.cell? ⟨w.heap.size, 3, none⟩ = some (.int .i64 k3) ∧ w'.cell? ⟨w.heap.size, 4, none⟩ = some (.int .u32 u) := ⟨Lib.tabBelow_of_tabIs h.1 w' hb, keepSP j i v k3 u h.2 hb⟩
theorem itoa_T {w W : World} {j i v k3 u : Int} (n : Nat) (d : ByteArray) (ed : Hid (d = decS n)) (hn : n < 10000000) (h : Lib.TabIs Tryd.prog W "internal/strconv.uint64pow10" .u64 Lib.pow10Tab ∧ Below w.heap.size w W ∧ w.heap.size < W.heap.size ∧ W.cell? ⟨w.heap.size, 0, none⟩ = some (.int .i64 j) ∧ W.cell? ⟨w.heap.size, 1, none⟩ = some (.int .i64 i) ∧ W.cell? ⟨w.heap.size, 2, none⟩ = some (.int .i64 v) ∧ W.cell? ⟨w.heap.size, 3, none⟩ = some (.int .i64 k3) ∧ W.cell? ⟨w.heap.size, 4, none⟩ = some (.int .u32 u)) :
    Calls Tryd.prog 53 #[.int .i64 n] W fun e w' => e = .returned (.string d) ∧ Below W.heap.size W w' :=
  (itoa_op n (by omega) W h.1).mono fun e w' ⟨d', he, hd', _, hb⟩ => ⟨by rw [he, hd'.out, ed.out], hb⟩
theorem dec_opaque (n : Nat) (hn : n < 18446744073709551616) : ∃ d : ByteArray, Hid (d = decS n) ∧ d.size ≤ 20 := ⟨decS n, Lib.hid rfl, dec_size n hn⟩
theorem cat_run (a b : ByteArray) (h : a.size + b.size ≤ 1000) : ∀ W, (Op.stringOp .add a b).run Tryd.prog W = .ok (.string (a ++ b)) W := fun W => run_string_add_sum W a b (by omega)
set_option maxRecDepth 100000 in
set_option maxHeartbeats 4000000 in
theorem ktext_full0 (vs vr : Value) (j : Nat) (hj : j < 15) (hj1 : j ≠ 1) (m : Int) (hp : placesOf j = m) (hm : m ≠ 0) (i v : Nat) (hi : i < 1000) (hv : v < 10000000) (k3 : Int) (h3 : 0 ≤ k3) (h37 : k3 ≤ 7) (u : Nat) (hu : u < 4294967296) (h : Hid (rightB j i v k3 u = true)) (w : World) (hT : Tx vs vr w) (hz : u = 0) :
    Calls Tryd.prog 37 #[.agg #[.int .i64 j, .int .i64 i, .int .i64 v, .int .i64 k3, .int .u32 u]] w fun e w' => e = .returned (.string ((nmS j ++ ⟨#[32]⟩ ++ decS i ++ ⟨#[46]⟩ ++ decS v) ++ lackT k3)) ∧ Below w.heap.size w w' := by
  obtain ⟨s, es, hsz⟩ := nm_opaque j hj
  have S0 := Lib.hid (startSP w j i v k3 u)
  have HT := Lib.hid (hT.below S0.out.1)
  have hne : ((j : Int) == 1) = false := beq_eq_false_iff_ne.2 (by omega)
  have hnm : (m == 0) = false := beq_eq_false_iff_ne.2 hm
  obtain ⟨d1, ed1, hd1⟩ := dec_opaque i (by omega)
  obtain ⟨d2, ed2, hd2⟩ := dec_opaque v (by omega)
  have z1 : (⟨#[32]⟩ : ByteArray).size = 1 := rfl
  have z2 : (⟨#[46]⟩ : ByteArray).size = 1 := rfl
  have f1 := cat_run ⟨#[32]⟩ d1 (by omega)
  have f2 := cat_run (⟨#[32]⟩ ++ d1) ⟨#[46]⟩ (by rw [ByteArray.size_append]; omega)
  have f3 := cat_run (⟨#[32]⟩ ++ d1 ++ ⟨#[46]⟩) d2 (by rw [ByteArray.size_append, ByteArray.size_append]; omega)
  have f4 := cat_run s (⟨#[32]⟩ ++ d1 ++ ⟨#[46]⟩ ++ d2) (by rw [ByteArray.size_append, ByteArray.size_append, ByteArray.size_append]; omega)
  clear z1 z2
  have hze : ((u : Int) == 0) = true := by simp; omega
  have hzn : ((u : Int) != 0) = false := by simp; omega
  clear hT hz
  go_enter Tryd.func37, Tryd.ntmps37
  go_wp2_with (first
    | (go_at_call 32; refine (kvalid_ok j i v k3 u vs vr h _ HT.out.errs).mono ?_; rintro e w1 ⟨rfl, hb⟩; have hS := keepSP j i v k3 u S0.out hb; have hK := hS.2; have hn1 := (HT.out.below hb).names.2 j hj; replace hn1 := hn1.trans (congrArg (fun x => some (Value.string x)) es.out.symm); have ht1 := Lib.hid (HT.out.below hb).tab; have hB := Lib.hid hS.1; clear hb hS)
    | (go_at_call 49; refine (kplaces_is j m hp _).mono ?_; rintro e w2 ⟨rfl, rfl⟩))
  have ST : Hid (Lib.TabIs Tryd.prog w1.drew "internal/strconv.uint64pow10" .u64 Lib.pow10Tab ∧ Below w.heap.size w w1.drew ∧ w.heap.size < w1.drew.heap.size ∧ w1.drew.cell? ⟨w.heap.size, 0, none⟩ = some (.int .i64 j) ∧ w1.drew.cell? ⟨w.heap.size, 1, none⟩ = some (.int .i64 i) ∧ w1.drew.cell? ⟨w.heap.size, 2, none⟩ = some (.int .i64 v) ∧ w1.drew.cell? ⟨w.heap.size, 3, none⟩ = some (.int .i64 k3) ∧ w1.drew.cell? ⟨w.heap.size, 4, none⟩ = some (.int .u32 u)) := Lib.hid ⟨Lib.tabBelow_of_tabIs ht1.out _ ((Below.refl _ _).drew), hB.out.drew, hK⟩
  clear hB hK hn1 ht1
  go_region_held3 (fun w' => Lib.TabIs Tryd.prog w' "internal/strconv.uint64pow10" .u64 Lib.pow10Tab ∧ Below w.heap.size w w' ∧ w.heap.size < w'.heap.size ∧ w'.cell? ⟨w.heap.size, 0, none⟩ = some (.int .i64 j) ∧ w'.cell? ⟨w.heap.size, 1, none⟩ = some (.int .i64 i) ∧ w'.cell? ⟨w.heap.size, 2, none⟩ = some (.int .i64 v) ∧ w'.cell? ⟨w.heap.size, 3, none⟩ = some (.int .i64 k3) ∧ w'.cell? ⟨w.heap.size, 4, none⟩ = some (.int .u32 u)) (first | exact ST.out | assumption | exact keepT j i v k3 u (by assumption) hb)
    (first | (go_at_call 53; (with_reducible refine (itoa_T i d1 ed1 (by omega) (by assumption)).mono ?_); rintro e w' ⟨rfl, hb⟩) | (go_at_call 53; (with_reducible refine (itoa_T v d2 ed2 (by omega) (by assumption)).mono ?_); rintro e w' ⟨rfl, hb⟩))
  have hSS : Hid (Lib.TabIs Tryd.prog w' "internal/strconv.uint64pow10" .u64 Lib.pow10Tab ∧ Below w.heap.size w w' ∧ w.heap.size < w'.heap.size ∧ w'.cell? ⟨w.heap.size, 0, none⟩ = some (.int .i64 j) ∧ w'.cell? ⟨w.heap.size, 1, none⟩ = some (.int .i64 i) ∧ w'.cell? ⟨w.heap.size, 2, none⟩ = some (.int .i64 v) ∧ w'.cell? ⟨w.heap.size, 3, none⟩ = some (.int .i64 k3) ∧ w'.cell? ⟨w.heap.size, 4, none⟩ = some (.int .u32 u)) := Lib.hid (by assumption)
  have hKK := hSS.out.2.2.2
  go_wp2_with (first | (go_at_call 54; refine (lack_op k3 h3 h37 _).mono ?_; rintro e w3 ⟨d3, rfl, ed3, hd3, rfl⟩))
  go_ret
  refine ⟨ret_str ?_, hSS.out.2.1⟩
  rw [cat0, es.out, ed1.out, ed2.out, ed3.out]
set_option maxRecDepth 100000 in
set_option maxHeartbeats 4000000 in
theorem ktext_full1 (vs vr : Value) (j : Nat) (hj : j < 15) (hj1 : j ≠ 1) (m : Int) (hp : placesOf j = m) (hm : m ≠ 0) (i v : Nat) (hi : i < 1000) (hv : v < 10000000) (k3 : Int) (h3 : 0 ≤ k3) (h37 : k3 ≤ 7) (u : Nat) (hu : u < 4294967296) (h : Hid (rightB j i v k3 u = true)) (w : World) (hT : Tx vs vr w) (hz : u ≠ 0) :
    Calls Tryd.prog 37 #[.agg #[.int .i64 j, .int .i64 i, .int .i64 v, .int .i64 k3, .int .u32 u]] w fun e w' => e = .returned (.string ((nmS j ++ ⟨#[32]⟩ ++ decS i ++ ⟨#[46]⟩ ++ decS v) ++ (⟨#[32, 43]⟩ ++ decS u) ++ lackT k3)) ∧ Below w.heap.size w w' := by
  obtain ⟨s, es, hsz⟩ := nm_opaque j hj
  have S0 := Lib.hid (startSP w j i v k3 u)
  have HT := Lib.hid (hT.below S0.out.1)
  have hne : ((j : Int) == 1) = false := beq_eq_false_iff_ne.2 (by omega)
  have hnm : (m == 0) = false := beq_eq_false_iff_ne.2 hm
  obtain ⟨d1, ed1, hd1⟩ := dec_opaque i (by omega)
  obtain ⟨d2, ed2, hd2⟩ := dec_opaque v (by omega)
  have z1 : (⟨#[32]⟩ : ByteArray).size = 1 := rfl
  have z2 : (⟨#[46]⟩ : ByteArray).size = 1 := rfl
  have f1 := cat_run ⟨#[32]⟩ d1 (by omega)
  have f2 := cat_run (⟨#[32]⟩ ++ d1) ⟨#[46]⟩ (by rw [ByteArray.size_append]; omega)
  have f3 := cat_run (⟨#[32]⟩ ++ d1 ++ ⟨#[46]⟩) d2 (by rw [ByteArray.size_append, ByteArray.size_append]; omega)
  have f4 := cat_run s (⟨#[32]⟩ ++ d1 ++ ⟨#[46]⟩ ++ d2) (by rw [ByteArray.size_append, ByteArray.size_append, ByteArray.size_append]; omega)
  clear z1 z2
  have hze : ((u : Int) == 0) = false := by simp; omega
  have hzn : ((u : Int) != 0) = true := by simp; omega
  clear hT hz
  go_enter Tryd.func37, Tryd.ntmps37
  go_wp2_with (first
    | (go_at_call 32; refine (kvalid_ok j i v k3 u vs vr h _ HT.out.errs).mono ?_; rintro e w1 ⟨rfl, hb⟩; have hS := keepSP j i v k3 u S0.out hb; have hK := hS.2; have hn1 := (HT.out.below hb).names.2 j hj; replace hn1 := hn1.trans (congrArg (fun x => some (Value.string x)) es.out.symm); have ht1 := Lib.hid (HT.out.below hb).tab; have hB := Lib.hid hS.1; clear hb hS)
    | (go_at_call 49; refine (kplaces_is j m hp _).mono ?_; rintro e w2 ⟨rfl, rfl⟩))
  have ST : Hid (Lib.TabIs Tryd.prog w1.drew "internal/strconv.uint64pow10" .u64 Lib.pow10Tab ∧ Below w.heap.size w w1.drew ∧ w.heap.size < w1.drew.heap.size ∧ w1.drew.cell? ⟨w.heap.size, 0, none⟩ = some (.int .i64 j) ∧ w1.drew.cell? ⟨w.heap.size, 1, none⟩ = some (.int .i64 i) ∧ w1.drew.cell? ⟨w.heap.size, 2, none⟩ = some (.int .i64 v) ∧ w1.drew.cell? ⟨w.heap.size, 3, none⟩ = some (.int .i64 k3) ∧ w1.drew.cell? ⟨w.heap.size, 4, none⟩ = some (.int .u32 u)) := Lib.hid ⟨Lib.tabBelow_of_tabIs ht1.out _ ((Below.refl _ _).drew), hB.out.drew, hK⟩
  clear hB hK hn1 ht1
  go_region_held3 (fun w' => Lib.TabIs Tryd.prog w' "internal/strconv.uint64pow10" .u64 Lib.pow10Tab ∧ Below w.heap.size w w' ∧ w.heap.size < w'.heap.size ∧ w'.cell? ⟨w.heap.size, 0, none⟩ = some (.int .i64 j) ∧ w'.cell? ⟨w.heap.size, 1, none⟩ = some (.int .i64 i) ∧ w'.cell? ⟨w.heap.size, 2, none⟩ = some (.int .i64 v) ∧ w'.cell? ⟨w.heap.size, 3, none⟩ = some (.int .i64 k3) ∧ w'.cell? ⟨w.heap.size, 4, none⟩ = some (.int .u32 u)) (first | exact ST.out | assumption | exact keepT j i v k3 u (by assumption) hb)
    (first | (go_at_call 53; (with_reducible refine (itoa_T i d1 ed1 (by omega) (by assumption)).mono ?_); rintro e w' ⟨rfl, hb⟩) | (go_at_call 53; (with_reducible refine (itoa_T v d2 ed2 (by omega) (by assumption)).mono ?_); rintro e w' ⟨rfl, hb⟩))
  have hSS : Hid (Lib.TabIs Tryd.prog w' "internal/strconv.uint64pow10" .u64 Lib.pow10Tab ∧ Below w.heap.size w w' ∧ w.heap.size < w'.heap.size ∧ w'.cell? ⟨w.heap.size, 0, none⟩ = some (.int .i64 j) ∧ w'.cell? ⟨w.heap.size, 1, none⟩ = some (.int .i64 i) ∧ w'.cell? ⟨w.heap.size, 2, none⟩ = some (.int .i64 v) ∧ w'.cell? ⟨w.heap.size, 3, none⟩ = some (.int .i64 k3) ∧ w'.cell? ⟨w.heap.size, 4, none⟩ = some (.int .u32 u)) := Lib.hid (by assumption)
  have hKK := hSS.out.2.2.2
  go_wp2_with (first | (go_at_call 52; refine (decimal_op u hu _ hSS.out.1).mono ?_; rintro e w4 ⟨d4, rfl, ed4, hd4, hb4⟩; have hK4 := (keepT j i v k3 u hSS.out hb4).2.2.2; have hS4 := Lib.hid (keepT j i v k3 u hSS.out hb4)) | (go_at_call 54; refine (lack_op k3 h3 h37 _).mono ?_; rintro e w3 ⟨d3, rfl, ed3, hd3, rfl⟩))
  go_ret
  refine ⟨ret_str ?_, hS4.out.2.1⟩
  rw [cat0, es.out, ed1.out, ed2.out, ed3.out, ed4.out]
set_option maxRecDepth 100000 in
theorem ktext_bad (k0 k1 k2 k3 k4 : Int) (tp : TypeId) (a b : Addr) (h : Hid (rightB k0 k1 k2 k3 k4 = false)) (w : World) (hE : ErrsAt (.iface tp (.pointer (some a))) (.iface tp (.pointer (some b))) w) :
    Calls Tryd.prog 37 #[.agg #[.int .i64 k0, .int .i64 k1, .int .i64 k2, .int .i64 k3, .int .u32 k4]] w fun e w' => e = .returned (.string ⟨#[]⟩) ∧ Below w.heap.size w w' := by
  have S0 := Lib.hid (startSP w k0 k1 k2 k3 k4)
  have HE := Lib.hid (hE.below S0.out.1)
  clear hE
  go_enter Tryd.func37, Tryd.ntmps37
  go_wp2_with (first
    | (go_at_call 32; refine (kvalid_bad k0 k1 k2 k3 k4 tp a b h _ HE.out).mono ?_; rintro e w1 ⟨c, rfl, hb⟩; have hB := Lib.hid (keepSP k0 k1 k2 k3 k4 S0.out hb).1; clear hb))
  go_ret
  exact ⟨rfl, hB.out⟩
end Go.Proofs.YtggnaalcdekccaaDoor
