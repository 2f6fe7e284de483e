/-
  package queue: take, Pick, Drop, All.
-/
import Derived.Test.YtdfcpgbimihcoaaQu2
import Derived.Test.YtdfcpgbimihcoaaShelf
import Derived.Deep.Upon
namespace Go.Proofs.Ytdfcpgbimihcoaa
open Go.ChangeShapes Go.WideShapes Go.ChangeAt Go.RowKit Go.Maps
set_option linter.unusedVariables false
def over : List Value → Nat → List Value → List Value
  | xs, _, [] => xs
  | xs, o, v :: vs => over (xs.set o v) (o + 1) vs
theorem over_len (vs : List Value) : ∀ (xs : List Value) (o : Nat), (over xs o vs).length = xs.length := by
  induction vs with
  | nil => intro xs o; rfl
  | cons v vs ih => intro xs o; unfold over; rw [ih]; simp
theorem over_get (vs : List Value) : ∀ (xs : List Value) (o j : Nat), o + vs.length ≤ xs.length → (over xs o vs)[j]? = if o ≤ j ∧ j < o + vs.length then vs[j - o]? else xs[j]? := by
  induction vs with
  | nil => intro xs o j h; unfold over; rw [if_neg (by simp only [List.length_nil]; omega)]
  | cons v vs ih =>
    intro xs o j h
    simp only [List.length_cons] at h
    unfold over
    rw [ih _ _ _ (by simp; omega)]
    by_cases h1 : o + 1 ≤ j ∧ j < o + 1 + vs.length
    · rw [if_pos h1, if_pos (by simp; omega), show j - o = (j - (o + 1)) + 1 by omega]
      simp
    · rw [if_neg h1]
      by_cases h2 : j = o
      · subst h2
        rw [if_pos (by simp)]
        rw [List.getElem?_set_self (by omega)]
        simp
      · rw [if_neg (by simp; omega), List.getElem?_set_ne (by omega)]
theorem over_all (xs vs : List Value) (h : vs.length = xs.length) : over xs 0 vs = vs := by
  apply List.ext_getElem?
  intro j
  rw [over_get vs xs 0 j (by omega)]
  by_cases hj : j < vs.length
  · rw [if_pos (by omega)]
    simp
  · rw [if_neg (by omega), List.getElem?_eq_none (by omega), List.getElem?_eq_none (by omega)]
theorem own_setCells {base e g n c : Nat} (vs : List Value) : ∀ (o : Nat) (xs : List Value) (w : World), w.ownsRow base e 1 (.slice (some ⟨g, 0, none⟩) n c) n xs →
    (w.setCells g o vs).ownsRow base e 1 (.slice (some ⟨g, 0, none⟩) n c) n (over xs o vs) ∧ w.grownBy (w.setCells g o vs) (some g) := by
  induction vs with
  | nil => intro o xs w h; exact ⟨h, ⟨rfl, rfl, rfl, Nat.le_refl _, fun _ _ _ => rfl⟩⟩
  | cons v vs ih =>
    intro o xs w h
    have h1 := h.stored o v
    have h2 := ih (o + 1) _ _ h1.1
    exact ⟨h2.1, ⟨h2.2.os.trans h1.2.os, h2.2.tape.trans h1.2.tape, h2.2.output.trans h1.2.output, Nat.le_trans h1.2.size h2.2.size, fun k hk hne => (h2.2.block k (Nat.lt_of_lt_of_le hk h1.2.size) hne).trans (h1.2.block k hk hne)⟩⟩
theorem own_drewN {w : World} {base e s n : Nat} {v : Value} {xs : List Value} (h : w.ownsRow base e s v n xs) (q : Nat) : (w.drewN q).ownsRow base e s v n xs := h
theorem own_cut {w : World} {base e g n c : Nat} {xs ys : List Value} (h : w.ownsRow base e 1 (.slice (some ⟨g, 0, none⟩) n c) n xs) (m : Nat) (hm : m ≤ n) (hy : xs.take m = ys) : w.ownsRow base e 1 (.slice (some ⟨g, 0, none⟩) m c) m ys := by
  have hl := h.1
  refine ⟨by rw [← hy, List.length_take]; omega, ?_⟩
  rcases h.2 with ⟨h', _⟩ | ⟨g', cap', cur, h', hb, hg, hnc, hcm, hcs, htake⟩
  · simp at h'
  · simp only [Value.slice.injEq, Option.some.injEq, Addr.mk.injEq, and_true, true_and] at h'
    obtain ⟨rfl, rfl⟩ := h'
    refine .inr ⟨_, _, cur, rfl, hb, hg, by omega, hcm, hcs, ?_⟩
    rw [← hy, ← htake, List.take_take]
    congr 1
    omega
theorem qdel_at {base g n c k : Nat} {l : List Int} (w : World) (hrow : w.ownsRow base 3 1 (.slice (some ⟨g, 0, none⟩) n c) n (l.map (Value.int .i64))) (hn : Hid (l.length = n)) (hk : k < n) (y : Int) (hy : Hid (y = k + 1)) :
    Calls Try.prog 30 #[.slice (some ⟨g, 0, none⟩) n c, .int .i64 k, .int .i64 y] w fun e w' => e = .returned (.slice (some ⟨g, 0, none⟩) (n - 1) c) ∧ w'.ownsRow base 3 1 (.slice (some ⟨g, 0, none⟩) (n - 1) c) (n - 1) ((l.eraseIdx k).map (Value.int .i64)) ∧ w.grownBy w' (some g) := by
  have hc : n ≤ c ∧ c ≤ maxLen := by
    rcases hrow.2 with ⟨h', _⟩ | ⟨g', cap', cur, h', hb, hg, hnc, hcm, hcs, htake⟩
    · simp at h'
    · simp only [Value.slice.injEq, Option.some.injEq, Addr.mk.injEq, and_true, true_and] at h'
      obtain ⟨rfl, rfl⟩ := h'
      exact ⟨hnc, hcm⟩
  have hl := hn.out
  have e : y = ((k + 1 : Nat) : Int) := by rw [hy.out]; simp
  rw [e]
  refine (Try.slices_Delete_int_cells g 0 n c k (k + 1) l w (by omega) hc.1 (by have := hc.2; unfold maxLen at this; omega) (by omega) (by omega) (fun j hj => ?_) (fun j hj => ?_)).mono fun e w' ⟨he, q, hw⟩ => ?_
  · rw [Nat.zero_add, hrow.cellAt j (by omega)]
    simp [List.getD, hj]
  · exact hrow.frozenAt _
  · have hv : ((l.take n).take k ++ (l.take n).drop (k + 1) ++ List.replicate (k + 1 - k) 0).length = n := by simp; omega
    have h1 := own_setCells (((l.take n).take k ++ (l.take n).drop (k + 1) ++ List.replicate (k + 1 - k) 0).map (Value.int .i64)) 0 _ _ (own_drewN hrow q)
    rw [over_all _ _ (by simp; omega)] at h1
    subst hw
    refine ⟨by rw [he, show n - (k + 1 - k) = n - 1 by omega], own_cut h1.1 (n - 1) (by omega) ?_, ?_⟩
    · rw [← List.map_take]
      congr 1
      rw [List.take_of_length_le (l := l) (by omega), ← List.eraseIdx_eq_take_drop_succ, List.take_append_of_le_length (by rw [List.length_eraseIdx_of_lt (by omega)]; omega), List.take_of_length_le (by rw [List.length_eraseIdx_of_lt (by omega)]; omega)]
    · exact ⟨h1.2.os, h1.2.tape, h1.2.output, h1.2.size, h1.2.block⟩
theorem erase_has (l : List Int) (k : Nat) (hk : k < l.length) (hnd : l.Nodup) (y : Int) : (l.eraseIdx k).contains y = (l.contains y && !decide (y = l.getD k 0)) := by
  have e : l.getD k 0 = l[k] := by simp [List.getD, hk]
  have hl : l = l.take k ++ l[k] :: l.drop (k + 1) := by
    rw [← List.drop_eq_getElem_cons hk, List.take_append_drop]
  have hn : (l.take k ++ l[k] :: l.drop (k + 1)).Nodup := by rw [← hl]; exact hnd
  rw [List.nodup_append] at hn
  obtain ⟨h1, h2, h3⟩ := hn
  rw [List.nodup_cons] at h2
  have hm : y ∈ l ↔ y ∈ l.take k ∨ y = l[k] ∨ y ∈ l.drop (k + 1) := by
    conv => lhs; rw [hl]
    simp only [List.mem_append, List.mem_cons]
  rw [e, List.eraseIdx_eq_take_drop_succ, Bool.eq_iff_iff]
  simp only [List.contains_iff_mem, List.mem_append, Bool.and_eq_true, hm, Bool.not_eq_true', decide_eq_false_iff_not]
  constructor
  · rintro (h | h)
    · exact ⟨.inl h, fun e2 => h3 y h l[k] (.head _) e2⟩
    · exact ⟨.inr (.inr h), fun e2 => h2.1 (e2 ▸ h)⟩
  · rintro ⟨h | h | h, h4⟩
    · exact .inl h
    · exact absurd h h4
    · exact .inr h
/-- One number less. -/
theorem QM.drop {w w1 w2 : World} {base q b M g n c k : Nat} {l : List Int} {D D' : DataW Unit} (h : QM w base q b l (.slice (some ⟨g, 0, none⟩) n c) M D) (hn : l.length = n) (hk : k < n)
    (hD : D' = D.del (kI (l.getD k 0))) (hm : w1.ownsMap Try.prog 3 U1 M b D') (hg1 : w.grownBy w1 (some M)) (hrow : w2.ownsRow base 3 1 (.slice (some ⟨g, 0, none⟩) (n - 1) c) (n - 1) ((l.eraseIdx k).map (Value.int .i64))) (hg2 : w1.grownBy w2 (some g)) :
    QM (w2.setCell ⟨q, 0, none⟩ (.slice (some ⟨g, 0, none⟩) (n - 1) c)) base q b (l.eraseIdx k) (.slice (some ⟨g, 0, none⟩) (n - 1) c) M D' ∧ QFr w (w2.setCell ⟨q, 0, none⟩ (.slice (some ⟨g, 0, none⟩) (n - 1) c)) (SM q (.slice (some ⟨g, 0, none⟩) n c) M) (SM q (.slice (some ⟨g, 0, none⟩) (n - 1) c) M) := by
  have s0 := h.at.2.2.2.2
  have hgq : g ≠ q := fun e => h.qv (by rw [e]; rfl)
  have hgM : g ≠ M := fun e => h.mv (by rw [e]; rfl)
  have h1 : w1.heap[q]? = some (.cells #[.slice (some ⟨g, 0, none⟩) n c, .map (some M)] 27 (0, 0)) := (hg1.block q s0 (fun e => h.mq (by injection e with e; exact e.symm))).trans h.hp
  have h2 : w2.heap[q]? = some (.cells #[.slice (some ⟨g, 0, none⟩) n c, .map (some M)] 27 (0, 0)) := (hg2.block q (lt_heap h1) (fun e => hgq (by injection e with e; exact e.symm))).trans h1
  have hlen : (l.eraseIdx k).length = n - 1 := by rw [List.length_eraseIdx_of_lt (by omega), hn]
  refine ⟨⟨two_set0 h2, h.qb, ?_, fun e => hgq (by simpa [Value.ownBlock] using e), (hm.kept hg2 (fun e => hgM (by injection e with e; exact e.symm))).setCell h.mq _, h.mb, ?_, ?_, ?_⟩, ?_⟩
  · rw [hlen]
    exact ownsRow_setCell_other hrow (a := ⟨q, 0, none⟩) (fun e => hgq (by simpa [Value.ownBlock] using e)) _
  · intro y
    rw [erase_has l k (by omega) h.nd y, hD]
    by_cases e : y = l.getD k 0
    · rw [e, Maps.has_del_same]
      simp
    · rw [Maps.has_del_other (by simpa using e), h.has y, decide_eq_false e]
      simp
  · exact h.nd.sublist (List.eraseIdx_sublist _ _)
  · exact fun y hy => h.vals y (List.mem_of_mem_eraseIdx hy)
  · have f1 : QFr w w1 (SM q (.slice (some ⟨g, 0, none⟩) n c) M) (SM q (.slice (some ⟨g, 0, none⟩) n c) M) := QFr.of_grown hg1 (.inr (.inr rfl))
    have f2 : QFr w1 w2 (SM q (.slice (some ⟨g, 0, none⟩) n c) M) (SM q (.slice (some ⟨g, 0, none⟩) n c) M) := QFr.of_grown hg2 (.inr (.inl rfl))
    have f3 := QFr.of_grown (S := SM q (.slice (some ⟨g, 0, none⟩) n c) M) (grown_cell w2 q 0 (.slice (some ⟨g, 0, none⟩) (n - 1) c)) (.inl rfl)
    exact ((f1.trans f2).trans f3).turn fun k _ hk => hk
theorem QM.mid2 {w w1 w2 : World} {base q b M g n c : Nat} {l : List Int} {D : DataW Unit} (h : QM w base q b l (.slice (some ⟨g, 0, none⟩) n c) M D) (hg1 : w.grownBy w1 (some M)) (hg2 : w1.grownBy w2 (some g)) : w2.cell? ⟨q, 0, none⟩ = some (.slice (some ⟨g, 0, none⟩) n c) ∧ w2.frozen? ⟨q, 0, none⟩ = false := by
  have s0 := h.at.2.2.2.2
  have hgq : g ≠ q := fun e => h.qv (by rw [e]; rfl)
  have h1 : w1.heap[q]? = some (.cells #[.slice (some ⟨g, 0, none⟩) n c, .map (some M)] 27 (0, 0)) := (hg1.block q s0 (fun e => h.mq (by injection e with e; exact e.symm))).trans h.hp
  have h2 : w2.heap[q]? = some (.cells #[.slice (some ⟨g, 0, none⟩) n c, .map (some M)] 27 (0, 0)) := (hg2.block q (lt_heap h1) (fun e => hgq (by injection e with e; exact e.symm))).trans h1
  exact ⟨(two_at h2).1, (two_at h2).2.2.1⟩
set_option maxRecDepth 100000 in
set_option maxHeartbeats 4000000 in
theorem qtake_m {base q b M g n c : Nat} {l : List Int} {D : DataW Unit} (k : Nat) (hn : Hid (l.length = n)) (hk : k < n) (hm : n ≤ 1000000) (w : World) (h : QM w base q b l (.slice (some ⟨g, 0, none⟩) n c) M D) :
    Calls Try.prog 24 #[.pointer (some ⟨q, 0, none⟩), .int .i64 k] w fun e w' => e = .returned (.tuple #[]) ∧ ∃ D', QM w' base q b (l.eraseIdx k) (.slice (some ⟨g, 0, none⟩) (n - 1) c) M D' ∧ QFr w w' (SM q (.slice (some ⟨g, 0, none⟩) n c) M) (SM q (.slice (some ⟨g, 0, none⟩) (n - 1) c) M) := by
  have H := Lib.hid h
  have c0 := h.at.1
  have c1 := h.at.2.1
  have hrow : w.ownsRow base 3 1 (.slice (some ⟨g, 0, none⟩) n c) n (l.map (Value.int .i64)) := by have := h.row; rwa [hn.out] at this
  have HR := Lib.hid hrow
  have hk' : k < l.length := by rw [hn.out]; exact hk
  have cx : w.cell? ⟨g, k, none⟩ = some (.int .i64 (l.getD k 0)) := by
    rw [hrow.cellAt k (by omega)]
    simp [List.getD, hk']
  have hx : wfI (l.getD k 0) := h.vals _ (by simp [List.getD, hk'])
  obtain ⟨x, HX⟩ : ∃ x, Hid (l.getD k 0 = x) := ⟨_, Lib.hid rfl⟩
  rw [HX.out] at cx hx
  have hkey := hx.key
  have k0 : (0 : Int) ≤ k := by omega
  have k1 : (k : Int) < n := by omega
  clear h hrow hk' hx
  go_enter Try.func24, Try.ntmps24
  go_wp2_with fail
  go_still_tail 11, (by kernel_rfl)
  go_wp2_with (first
    | (at_delete; refine wpList_delete_own _ rfl _ _ 25 3 rfl 54 lawI Try.underlying25 U1 M b D rfl H.out.mp.drew _ _ rfl hkey ?_; intro w1 hown1 hturn1; have HM := Lib.hid hown1; have HG := Lib.hid (show w.grownBy w1 (some M) from ⟨hturn1.grown.os, hturn1.grown.tape, hturn1.grown.output, hturn1.grown.size, hturn1.grown.block⟩); have hc0 := (World.cell?_of_block (a := ⟨q, 0, none⟩) (HG.out.block q H.out.at.2.2.2.2 (fun e => H.out.mq (by injection e with e; exact e.symm)))).trans H.out.at.1; have HR1 := Lib.hid (HR.out.kept HG.out (.inr H.out.mv)); clear hown1 hturn1 c0 c1 cx)
    | (go_at_call 30; (with_reducible refine (qdel_at _ HR1.out hn hk _ (Lib.hid rfl)).mono ?_); rintro e w2 ⟨rfl, hr2, hg2⟩; have HP := Lib.hid (H.out.drop hn.out hk (by rw [HX.out]) HM.out HG.out hr2 hg2); have hmid := H.out.mid2 HG.out hg2; obtain ⟨hc2, hf2⟩ := hmid; clear hr2 hg2 hc0))
  go_end0
  exact ⟨rfl, _, HP.out⟩
theorem QI.big {w : World} {base q b : Nat} {l : List Int} {S : Nat → Prop} (h : QI w base q b l S) (hl : 0 < l.length) : ∃ g c M D, QM w base q b l (.slice (some ⟨g, 0, none⟩) l.length c) M D ∧ S = SM q (.slice (some ⟨g, 0, none⟩) l.length c) M := by
  rcases h with ⟨h1, h2, rfl, rfl⟩ | ⟨v, M, D, h, rfl⟩
  · simp at hl
  · obtain ⟨g, c, rfl⟩ := owns_slice h.row hl
    exact ⟨g, c, M, D, h, rfl⟩
theorem qtake_is {base q b n : Nat} {l : List Int} {S : Nat → Prop} (k : Nat) (hn : Hid (l.length = n)) (hk : k < n) (hm : n ≤ 1000000) (w : World) (h : QI w base q b l S) :
    Calls Try.prog 24 #[.pointer (some ⟨q, 0, none⟩), .int .i64 k] w fun e w' => e = .returned (.tuple #[]) ∧ ∃ S', QI w' base q b (l.eraseIdx k) S' ∧ QFr w w' S S' := by
  obtain ⟨g, c, M, D, hQ, rfl⟩ := h.big (by rw [hn.out]; omega)
  rw [hn.out] at hQ ⊢
  exact (qtake_m k hn hk hm w hQ).mono fun e w' ⟨he, D', h1, h2⟩ => ⟨he, _, .inr ⟨_, M, D', h1, rfl⟩, h2⟩
theorem qpick_none {base q b : Nat} {S : Nat → Prop} (x : Int) (w : World) (h : QI w base q b [] S) :
    Calls Try.prog 11 #[.pointer (some ⟨q, 0, none⟩), .int .i64 x] w fun e w' => e = .returned (.tuple #[.int .i64 0, .bool false]) ∧ w = w' := by
  obtain ⟨a, c, h0, _⟩ := h.row
  simp only [List.length_nil] at h0
  clear h
  go_enter Try.func11, Try.ntmps11
  go_wp2
  go_ret2
  exact ⟨rfl, rfl⟩
set_option maxRecDepth 100000 in
theorem qpick_some {base q b n : Nat} {l : List Int} {S : Nat → Prop} (x : Int) (hx1 : -9223372036854775808 ≤ x) (hx2 : x ≤ 9223372036854775807) (hn : Hid (l.length = n)) (hn0 : 0 < n) (hm : n ≤ 1000000) (r : Nat) (hr : Hid (x % (n : Int) = r)) (y : Int) (hy : Hid (l.getD r 0 = y)) (w : World) (h : QI w base q b l S) :
    Calls Try.prog 11 #[.pointer (some ⟨q, 0, none⟩), .int .i64 x] w fun e w' => e = .returned (.tuple #[.int .i64 y, .bool true]) ∧ ∃ S', QI w' base q b (l.eraseIdx r) S' ∧ QFr w w' S S' := by
  have H := Lib.hid h
  have e0 := Int.emod_nonneg x (show (n : Int) ≠ 0 by omega)
  have e1 := Int.emod_lt_of_pos x (show (0 : Int) < n by omega)
  have hrn : r < n := by have := hr.out; omega
  obtain ⟨g, c, M, D, hQ, _⟩ := h.big (by rw [hn.out]; omega)
  have c0 := hQ.at.1
  have hrow := hQ.row
  rw [hn.out] at c0 hrow
  have cx : w.cell? ⟨g, r, none⟩ = some (.int .i64 y) := by
    rw [hrow.cellAt r (by omega), ← hy.out]
    have : r < l.length := by rw [hn.out]; exact hrn
    simp [List.getD, this]
  have hz : ((n : Int) == 0) = false := by simp; omega
  have n1 : (1 : Int) ≤ n := by omega
  have r0 : (0 : Int) ≤ r := by omega
  have r1 : (r : Int) < n := by omega
  by_cases hn2 : 0 ≤ x
  · have ht := hr.out
    have hd : decide ((r : Int) < 0) = false := decide_eq_false (by omega)
    clear h hQ hrow e0 e1 hn0
    go_enter Try.func11, Try.ntmps11
    go_wp2_with (first | (go_at_call 24; (with_reducible refine (qtake_is r hn hrn hm _ H.out).mono ?_); rintro e w2 ⟨rfl, S', h1, h2⟩; have HQ := Lib.hid h1; have HF := Lib.hid h2; clear h1 h2))
    go_ret2
    exact ⟨rfl, S', HQ.out, HF.out⟩
  · have ht := Int.tmod_eq_emod (a := x) (b := n)
    have hab : ((n : Int).natAbs : Int) = n := by omega
    by_cases hdv : (n : Int) ∣ x
    · rw [if_pos (Or.inr hdv), hr.out] at ht
      have hd : decide ((r : Int) < 0) = false := decide_eq_false (by omega)
      clear h hQ hrow e0 e1 hn0 hdv hab
      go_enter Try.func11, Try.ntmps11
      go_wp2_with (first | (go_at_call 24; (with_reducible refine (qtake_is r hn hrn hm _ H.out).mono ?_); rintro e w2 ⟨rfl, S', h1, h2⟩; have HQ := Lib.hid h1; have HF := Lib.hid h2; clear h1 h2))
      go_ret2
      exact ⟨rfl, S', HQ.out, HF.out⟩
    · rw [if_neg (by omega), hr.out] at ht
      obtain ⟨t, ht2⟩ : ∃ t, x.tmod (n : Int) = t := ⟨_, rfl⟩
      rw [ht2] at ht
      have hs : t + (n : Int) = r := by omega
      have hlt : t < 0 := by omega
      have hge : -1000000 ≤ t := by omega
      have hd : decide (t < 0) = true := decide_eq_true hlt
      clear h hQ hrow e0 e1 hn0 hdv hab ht
      go_enter Try.func11, Try.ntmps11
      go_wp2_with (first | (go_at_call 24; (with_reducible refine (qtake_is r hn hrn hm _ H.out).mono ?_); rintro e w2 ⟨rfl, S', h1, h2⟩; have HQ := Lib.hid h1; have HF := Lib.hid h2; clear h1 h2))
      go_ret2
      exact ⟨rfl, S', HQ.out, HF.out⟩
theorem qall_is {base q b n : Nat} {l : List Int} {S : Nat → Prop} (hn : Hid (l.length = n)) (hm : n ≤ 1000000) (w : World) (h : QI w base q b l S) :
    Calls Try.prog 15 #[.pointer (some ⟨q, 0, none⟩)] w fun e w' => ∃ a c, e = .returned (.slice a n c) ∧ w'.ownsRow w.heap.size 3 1 (.slice a n c) n (l.map (Value.int .i64)) ∧ Below w.heap.size w w' := by
  obtain ⟨a, c, h0, hrow, _⟩ := h.row
  rw [hn.out] at h0 hrow
  have HN := hn
  clear h
  rcases hrow.2 with ⟨hv, hl⟩ | ⟨g, cap, cur, hv, hB, hg, hnc, hcm, hcs, htk⟩
  · obtain ⟨rfl, rfl⟩ : a = none ∧ n = 0 := by simp at hv; exact ⟨hv.1, hl⟩
    have hl0 : l = [] := List.length_eq_zero_iff.1 hn.out
    subst hl0
    clear hv hl hrow hn
    go_enter Try.func15, Try.ntmps15
    go_wp2_with (first | (go_at_call 26; refine (Try.slices_Clone_int_nil _ _ _).mono ?_; rintro e w2 ⟨rfl, rfl⟩))
    go_ret
    exact ⟨none, 0, rfl, World.ownsRow_nil _ _ _ _, Below.refl _ _⟩
  · obtain rfl : a = some ⟨g, 0, none⟩ := by simp at hv; exact hv.1
    have HR := Lib.hid hrow
    have hl : l.length = n := hn.out
    clear hv hcs htk hg hcm hnc
    go_enter Try.func15, Try.ntmps15
    go_wp2_with (first | (go_at_call 26; refine (Try.slices_Clone_int g 0 n c l _ (by omega) (by omega) (fun j hj => by rw [Nat.zero_add, HR.out.cellAt j (by omega)]; simp [List.getD, hj])).mono ?_; rintro e w2 ⟨v', rfl, h1, h2, h3⟩; have H1 := Lib.hid h1; have H2 := Lib.hid h2; have H3 := Lib.hid h3; clear h1 h2 h3))
    go_ret
    have hh := H1.out
    rw [List.take_of_length_le (by omega)] at hh
    rcases hh.2 with ⟨hv, h0⟩ | ⟨g', cap', cur', hv, _⟩
    · exact absurd hv H2.out
    · subst hv
      exact ⟨_, _, rfl, hh, H3.out⟩
end Go.Proofs.Ytdfcpgbimihcoaa
