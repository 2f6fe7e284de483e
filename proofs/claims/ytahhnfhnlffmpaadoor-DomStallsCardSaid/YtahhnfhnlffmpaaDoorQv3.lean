/-
  package queue: take, Pick, Drop, All.
-/
import Derived.Test.YtahhnfhnlffmpaaDoorQv2
import Derived.Test.YtahhnfhnlffmpaaDoorShelf
import Derived.Test.YtahhnfhnlffmpaaDoorSx
import Derived.Deep.Upon
namespace Go.Proofs.YtahhnfhnlffmpaaDoor.V
open Go.ChangeShapes Go.WideShapes Go.ChangeAt Go.RowKit Go.Maps
set_option linter.unusedVariables false
def over : List Value → Nat → List Value → List Value
  | xs, _, [] => xs
  | xs, o, v :: vs => over (xs.set o v) (o + 1) vs
theorem over_len (vs : List Value) : ∀ (xs : List Value) (o : Nat), (over xs o vs).length = xs.length := by
  induction vs with
  | nil => intro xs o; rfl
  | cons v vs ih => intro xs o; unfold over; rw [ih]; simp
theorem over_get (vs : List Value) : ∀ (xs : List Value) (o j : Nat), o + vs.length ≤ xs.length → (over xs o vs)[j]? = if o ≤ j ∧ j < o + vs.length then vs[j - o]? else xs[j]? := by
  induction vs with
  | nil => intro xs o j h; unfold over; rw [if_neg (by simp only [List.length_nil]; omega)]
  | cons v vs ih =>
    intro xs o j h
    simp only [List.length_cons] at h
    unfold over
    rw [ih _ _ _ (by simp; omega)]
    by_cases h1 : o + 1 ≤ j ∧ j < o + 1 + vs.length
    · rw [if_pos h1, if_pos (by simp; omega), show j - o = (j - (o + 1)) + 1 by omega]
      simp
    · rw [if_neg h1]
      by_cases h2 : j = o
      · subst h2
        rw [if_pos (by simp)]
        rw [List.getElem?_set_self (by omega)]
        simp
      · rw [if_neg (by simp; omega), List.getElem?_set_ne (by omega)]
theorem over_all (xs vs : List Value) (h : vs.length = xs.length) : over xs 0 vs = vs := by
  apply List.ext_getElem?
  intro j
  rw [over_get vs xs 0 j (by omega)]
  by_cases hj : j < vs.length
  · rw [if_pos (by omega)]
    simp
  · rw [if_neg (by omega), List.getElem?_eq_none (by omega), List.getElem?_eq_none (by omega)]
theorem own_setCells {base e g n c : Nat} (vs : List Value) : ∀ (o : Nat) (xs : List Value) (w : World), w.ownsRow base e 1 (.slice (some ⟨g, 0, none⟩) n c) n xs →
    (w.setCells g o vs).ownsRow base e 1 (.slice (some ⟨g, 0, none⟩) n c) n (over xs o vs) ∧ w.grownBy (w.setCells g o vs) (some g) := by
  induction vs with
  | nil => intro o xs w h; exact ⟨h, ⟨rfl, rfl, rfl, Nat.le_refl _, fun _ _ _ => rfl⟩⟩
  | cons v vs ih =>
    intro o xs w h
    have h1 := h.stored o v
    have h2 := ih (o + 1) _ _ h1.1
    exact ⟨h2.1, ⟨h2.2.os.trans h1.2.os, h2.2.tape.trans h1.2.tape, h2.2.output.trans h1.2.output, Nat.le_trans h1.2.size h2.2.size, fun k hk hne => (h2.2.block k (Nat.lt_of_lt_of_le hk h1.2.size) hne).trans (h1.2.block k hk hne)⟩⟩
theorem own_drewN {w : World} {base e s n : Nat} {v : Value} {xs : List Value} (h : w.ownsRow base e s v n xs) (q : Nat) : (w.drewN q).ownsRow base e s v n xs := h
theorem own_cut {w : World} {base e g n c : Nat} {xs ys : List Value} (h : w.ownsRow base e 1 (.slice (some ⟨g, 0, none⟩) n c) n xs) (m : Nat) (hm : m ≤ n) (hy : xs.take m = ys) : w.ownsRow base e 1 (.slice (some ⟨g, 0, none⟩) m c) m ys := by
  have hl := h.1
  refine ⟨by rw [← hy, List.length_take]; omega, ?_⟩
  rcases h.2 with ⟨h', _⟩ | ⟨g', cap', cur, h', hb, hg, hnc, hcm, hcs, htake⟩
  · simp at h'
  · simp only [Value.slice.injEq, Option.some.injEq, Addr.mk.injEq, and_true, true_and] at h'
    obtain ⟨rfl, rfl⟩ := h'
    refine .inr ⟨_, _, cur, rfl, hb, hg, by omega, hcm, hcs, ?_⟩
    rw [← hy, ← htake, List.take_take]
    congr 1
    omega
theorem qdel_at {base g n c k : Nat} {l : List Int} (w : World) (hrow : w.ownsRow base 3 1 (.slice (some ⟨g, 0, none⟩) n c) n (l.map (Value.int .i64))) (hn : Hid (l.length = n)) (hk : k < n) (y : Int) (hy : Hid (y = k + 1)) :
    Calls Tryd.prog 103 #[.slice (some ⟨g, 0, none⟩) n c, .int .i64 k, .int .i64 y] w fun e w' => e = .returned (.slice (some ⟨g, 0, none⟩) (n - 1) c) ∧ w'.ownsRow base 3 1 (.slice (some ⟨g, 0, none⟩) (n - 1) c) (n - 1) ((l.eraseIdx k).map (Value.int .i64)) ∧ w.grownBy w' (some g) := by
  have hc : n ≤ c ∧ c ≤ maxLen := by
    rcases hrow.2 with ⟨h', _⟩ | ⟨g', cap', cur, h', hb, hg, hnc, hcm, hcs, htake⟩
    · simp at h'
    · simp only [Value.slice.injEq, Option.some.injEq, Addr.mk.injEq, and_true, true_and] at h'
      obtain ⟨rfl, rfl⟩ := h'
      exact ⟨hnc, hcm⟩
  have hl := hn.out
  have e : y = ((k + 1 : Nat) : Int) := by rw [hy.out]; simp
  rw [e]
  refine (Tryd.slices_Delete_int_cells g 0 n c k (k + 1) l w (by omega) hc.1 (by have := hc.2; unfold maxLen at this; omega) (by omega) (by omega) (fun j hj => ?_) (fun j hj => ?_)).mono fun e w' ⟨he, q, hw⟩ => ?_
  · rw [Nat.zero_add, hrow.cellAt j (by omega)]
    simp [List.getD, hj]
  · exact hrow.frozenAt _
  · have hv : ((l.take n).take k ++ (l.take n).drop (k + 1) ++ List.replicate (k + 1 - k) 0).length = n := by simp; omega
    have h1 := own_setCells (((l.take n).take k ++ (l.take n).drop (k + 1) ++ List.replicate (k + 1 - k) 0).map (Value.int .i64)) 0 _ _ (own_drewN hrow q)
    rw [over_all _ _ (by simp; omega)] at h1
    subst hw
    refine ⟨by rw [he, show n - (k + 1 - k) = n - 1 by omega], own_cut h1.1 (n - 1) (by omega) ?_, ?_⟩
    · rw [← List.map_take]
      congr 1
      rw [List.take_of_length_le (l := l) (by omega), ← List.eraseIdx_eq_take_drop_succ, List.take_append_of_le_length (by rw [List.length_eraseIdx_of_lt (by omega)]; omega), List.take_of_length_le (by rw [List.length_eraseIdx_of_lt (by omega)]; omega)]
    · exact ⟨h1.2.os, h1.2.tape, h1.2.output, h1.2.size, h1.2.block⟩
theorem erase_has (l : List Int) (k : Nat) (hk : k < l.length) (hnd : l.Nodup) (y : Int) : (l.eraseIdx k).contains y = (l.contains y && !decide (y = l.getD k 0)) := by
  have e : l.getD k 0 = l[k] := by simp [List.getD, hk]
  have hl : l = l.take k ++ l[k] :: l.drop (k + 1) := by
    rw [← List.drop_eq_getElem_cons hk, List.take_append_drop]
  have hn : (l.take k ++ l[k] :: l.drop (k + 1)).Nodup := by rw [← hl]; exact hnd
  rw [List.nodup_append] at hn
  obtain ⟨h1, h2, h3⟩ := hn
  rw [List.nodup_cons] at h2
  have hm : y ∈ l ↔ y ∈ l.take k ∨ y = l[k] ∨ y ∈ l.drop (k + 1) := by
    conv => lhs; rw [hl]
    simp only [List.mem_append, List.mem_cons]
  rw [e, List.eraseIdx_eq_take_drop_succ, Bool.eq_iff_iff]
  simp only [List.contains_iff_mem, List.mem_append, Bool.and_eq_true, hm, Bool.not_eq_true', decide_eq_false_iff_not]
  constructor
  · rintro (h | h)
    · exact ⟨.inl h, fun e2 => h3 y h l[k] (.head _) e2⟩
    · exact ⟨.inr (.inr h), fun e2 => h2.1 (e2 ▸ h)⟩
  · rintro ⟨h | h | h, h4⟩
    · exact .inl h
    · exact absurd h h4
    · exact .inr h
/-- One number less. -/
theorem VM.drop {w w1 w2 : World} {base q o b M g n c k : Nat} {l : List Int} {D D' : DataW Unit} (h : VM w base q o b l (.slice (some ⟨g, 0, none⟩) n c) M D) (hn : l.length = n) (hk : k < n)
    (hD : D' = D.del (kI (l.getD k 0))) (hm : w1.ownsMap Tryd.prog 3 U1 M b D') (hg1 : w.grownBy w1 (some M)) (hrow : w2.ownsRow base 3 1 (.slice (some ⟨g, 0, none⟩) (n - 1) c) (n - 1) ((l.eraseIdx k).map (Value.int .i64))) (hg2 : w1.grownBy w2 (some g)) :
    VM (w2.setCell ⟨q, o, none⟩ (.slice (some ⟨g, 0, none⟩) (n - 1) c)) base q o b (l.eraseIdx k) (.slice (some ⟨g, 0, none⟩) (n - 1) c) M D' ∧ VFr q o w (w2.setCell ⟨q, o, none⟩ (.slice (some ⟨g, 0, none⟩) (n - 1) c)) (SM q (.slice (some ⟨g, 0, none⟩) n c) M) (SM q (.slice (some ⟨g, 0, none⟩) (n - 1) c) M) := by
  have s0 := h.lt
  have hgq : g ≠ q := fun e => h.qv (by rw [e]; rfl)
  have hgM : g ≠ M := fun e => h.mv (by rw [e]; rfl)
  have b1 : w1.heap[q]? = w.heap[q]? := hg1.block q s0 (fun e => h.mq (by injection e with e; exact e.symm))
  have s1 : q < w1.heap.size := Nat.lt_of_lt_of_le s0 hg1.size
  have hmid := same_cells ((hg2.block q s1 (fun e => hgq (by injection e with e; exact e.symm))).trans b1)
  have hlen : (l.eraseIdx k).length = n - 1 := by rw [List.length_eraseIdx_of_lt (by omega), hn]
  refine ⟨⟨cs_same ((hmid o).1.trans h.c0), (cs_other (addr_ne0 q o)).trans ((hmid (o + 1)).1.trans h.c1), fz_set.trans ((hmid o).2.trans h.f0), fz_set.trans ((hmid (o + 1)).2.trans h.f1), ?_, fun e => hgq (by simpa [Value.ownBlock] using e), (hm.kept hg2 (fun e => hgM (by injection e with e; exact e.symm))).setCell h.mq _, h.mb, ?_, ?_, ?_⟩, ?_⟩
  · rw [hlen]
    exact ownsRow_setCell_other hrow (a := ⟨q, o, none⟩) (fun e => hgq (by simpa [Value.ownBlock] using e)) _
  · intro y
    rw [erase_has l k (by omega) h.nd y, hD]
    by_cases e : y = l.getD k 0
    · rw [e, Maps.has_del_same]
      simp
    · rw [Maps.has_del_other (by simpa using e), h.has y, decide_eq_false e]
      simp
  · exact h.nd.sublist (List.eraseIdx_sublist _ _)
  · exact fun y hy => h.vals y (List.mem_of_mem_eraseIdx hy)
  · have f1 : VFr q o w w1 (SM q (.slice (some ⟨g, 0, none⟩) n c) M) (SM q (.slice (some ⟨g, 0, none⟩) n c) M) := VFr.of_grown hg1 (.inr (.inr rfl)) s0 h.mq
    have f2 : VFr q o w1 w2 (SM q (.slice (some ⟨g, 0, none⟩) n c) M) (SM q (.slice (some ⟨g, 0, none⟩) n c) M) := VFr.of_grown hg2 (.inr (.inl rfl)) s1 hgq
    have f3 := VFr.of_set w2 q o o (.slice (some ⟨g, 0, none⟩) (n - 1) c) (.inl rfl) (SM q (.slice (some ⟨g, 0, none⟩) n c) M) (.inl rfl)
    exact ((f1.trans f2).trans f3).turn fun k _ hk => hk
theorem VM.mid2 {w w1 w2 : World} {base q o b M g n c : Nat} {l : List Int} {D : DataW Unit} (h : VM w base q o b l (.slice (some ⟨g, 0, none⟩) n c) M D) (hg1 : w.grownBy w1 (some M)) (hg2 : w1.grownBy w2 (some g)) : w2.cell? ⟨q, o, none⟩ = some (.slice (some ⟨g, 0, none⟩) n c) ∧ w2.frozen? ⟨q, o, none⟩ = false := by
  have s0 := h.lt
  have hgq : g ≠ q := fun e => h.qv (by rw [e]; rfl)
  have b1 : w1.heap[q]? = w.heap[q]? := hg1.block q s0 (fun e => h.mq (by injection e with e; exact e.symm))
  have s1 : q < w1.heap.size := Nat.lt_of_lt_of_le s0 hg1.size
  have hmid := same_cells ((hg2.block q s1 (fun e => hgq (by injection e with e; exact e.symm))).trans b1)
  exact ⟨(hmid o).1.trans h.c0, (hmid o).2.trans h.f0⟩
set_option maxRecDepth 100000 in
set_option maxHeartbeats 4000000 in
theorem qtake_m {base q o b M g n c : Nat} {l : List Int} {D : DataW Unit} (k : Nat) (hn : Hid (l.length = n)) (hk : k < n) (hm : n ≤ 1000000) (w : World) (h : VM w base q o b l (.slice (some ⟨g, 0, none⟩) n c) M D) :
    Calls Tryd.prog 96 #[.pointer (some ⟨q, o, none⟩), .int .i64 k] w fun e w' => e = .returned (.tuple #[]) ∧ ∃ D', VM w' base q o b (l.eraseIdx k) (.slice (some ⟨g, 0, none⟩) (n - 1) c) M D' ∧ VFr q o w w' (SM q (.slice (some ⟨g, 0, none⟩) n c) M) (SM q (.slice (some ⟨g, 0, none⟩) (n - 1) c) M) := by
  have H := Lib.hid h
  have c0 := h.c0
  have c1 := h.c1
  have hrow : w.ownsRow base 3 1 (.slice (some ⟨g, 0, none⟩) n c) n (l.map (Value.int .i64)) := by have := h.row; rwa [hn.out] at this
  have HR := Lib.hid hrow
  have hk' : k < l.length := by rw [hn.out]; exact hk
  have cx : w.cell? ⟨g, k, none⟩ = some (.int .i64 (l.getD k 0)) := by
    rw [hrow.cellAt k (by omega)]
    simp [List.getD, hk']
  have hx : wfI (l.getD k 0) := h.vals _ (by simp [List.getD, hk'])
  obtain ⟨x, HX⟩ : ∃ x, Hid (l.getD k 0 = x) := ⟨_, Lib.hid rfl⟩
  rw [HX.out] at cx hx
  have hkey := hx.key
  have k0 : (0 : Int) ≤ k := by omega
  have k1 : (k : Int) < n := by omega
  clear h hrow hk' hx
  go_enter Tryd.func96, Tryd.ntmps96
  go_wp2_with fail
  go_still_tail 11, (by kernel_rfl)
  go_wp2_with (first
    | (at_delete; refine wpList_delete_own _ rfl _ _ 133 3 rfl 158 lawI Tryd.underlying133 U1 M b D rfl H.out.mp.drew _ _ rfl hkey ?_; intro w1 hown1 hturn1; have HM := Lib.hid hown1; have HG := Lib.hid (show w.grownBy w1 (some M) from ⟨hturn1.grown.os, hturn1.grown.tape, hturn1.grown.output, hturn1.grown.size, hturn1.grown.block⟩); have hc0 := (World.cell?_of_block (a := ⟨q, o, none⟩) (HG.out.block q H.out.lt (fun e => H.out.mq (by injection e with e; exact e.symm)))).trans H.out.c0; have HR1 := Lib.hid (HR.out.kept HG.out (.inr H.out.mv)); clear hown1 hturn1 c0 c1 cx)
    | (go_at_call 103; (with_reducible refine (qdel_at _ HR1.out hn hk _ (Lib.hid rfl)).mono ?_); rintro e w2 ⟨rfl, hr2, hg2⟩; have HP := Lib.hid (H.out.drop hn.out hk (by rw [HX.out]) HM.out HG.out hr2 hg2); have hmid := H.out.mid2 HG.out hg2; obtain ⟨hc2, hf2⟩ := hmid; clear hr2 hg2 hc0))
  go_end0
  exact ⟨rfl, _, HP.out⟩
theorem VI.big {w : World} {base q o b : Nat} {l : List Int} {S : Nat → Prop} (h : VI w base q o b l S) (hl : 0 < l.length) : ∃ g c M D, VM w base q o b l (.slice (some ⟨g, 0, none⟩) l.length c) M D ∧ S = SM q (.slice (some ⟨g, 0, none⟩) l.length c) M := by
  rcases h with ⟨h1, rfl, rfl⟩ | ⟨v, M, D, h, rfl⟩
  · simp at hl
  · obtain ⟨g, c, rfl⟩ := owns_slice h.row hl
    exact ⟨g, c, M, D, h, rfl⟩
theorem qtake_is {base q o b n : Nat} {l : List Int} {S : Nat → Prop} (k : Nat) (hn : Hid (l.length = n)) (hk : k < n) (hm : n ≤ 1000000) (w : World) (h : VI w base q o b l S) :
    Calls Tryd.prog 96 #[.pointer (some ⟨q, o, none⟩), .int .i64 k] w fun e w' => e = .returned (.tuple #[]) ∧ ∃ S', VI w' base q o b (l.eraseIdx k) S' ∧ VFr q o w w' S S' := by
  obtain ⟨g, c, M, D, hQ, rfl⟩ := h.big (by rw [hn.out]; omega)
  rw [hn.out] at hQ ⊢
  exact (qtake_m k hn hk hm w hQ).mono fun e w' ⟨he, D', h1, h2⟩ => ⟨he, _, .inr ⟨_, M, D', h1, rfl⟩, h2⟩
theorem qall_is {base q o b n : Nat} {l : List Int} {S : Nat → Prop} (hn : Hid (l.length = n)) (hm : n ≤ 1000000) (w : World) (h : VI w base q o b l S) :
    Calls Tryd.prog 67 #[.pointer (some ⟨q, o, none⟩)] w fun e w' => ∃ a c, e = .returned (.slice a n c) ∧ w'.ownsRow w.heap.size 3 1 (.slice a n c) n (l.map (Value.int .i64)) ∧ Below w.heap.size w w' := by
  obtain ⟨a, c, h0, hrow, _⟩ := h.row
  rw [hn.out] at h0 hrow
  have HN := hn
  clear h
  rcases hrow.2 with ⟨hv, hl⟩ | ⟨g, cap, cur, hv, hB, hg, hnc, hcm, hcs, htk⟩
  · obtain ⟨rfl, rfl⟩ : a = none ∧ n = 0 := by simp at hv; exact ⟨hv.1, hl⟩
    have hl0 : l = [] := List.length_eq_zero_iff.1 hn.out
    subst hl0
    clear hv hl hrow hn
    go_enter Tryd.func67, Tryd.ntmps67
    go_wp2_with (first | (go_at_call 87; refine (Tryd.slices_Clone_int_nil _ _ _).mono ?_; rintro e w2 ⟨rfl, rfl⟩))
    go_ret
    exact ⟨none, 0, rfl, World.ownsRow_nil _ _ _ _, Below.refl _ _⟩
  · obtain rfl : a = some ⟨g, 0, none⟩ := by simp at hv; exact hv.1
    have HR := Lib.hid hrow
    have hl : l.length = n := hn.out
    clear hv hcs htk hg hcm hnc
    go_enter Tryd.func67, Tryd.ntmps67
    go_wp2_with (first | (go_at_call 87; refine (Tryd.slices_Clone_int g 0 n c l _ (by omega) (by omega) (fun j hj => by rw [Nat.zero_add, HR.out.cellAt j (by omega)]; simp [List.getD, hj])).mono ?_; rintro e w2 ⟨v', rfl, h1, h2, h3⟩; have H1 := Lib.hid h1; have H2 := Lib.hid h2; have H3 := Lib.hid h3; clear h1 h2 h3))
    go_ret
    have hh := H1.out
    rw [List.take_of_length_le (by omega)] at hh
    rcases hh.2 with ⟨hv, h0⟩ | ⟨g', cap', cur', hv, _⟩
    · exact absurd hv H2.out
    · subst hv
      exact ⟨_, _, rfl, hh, H3.out⟩


/-- Those that are not x. -/
def offI (l : List Int) (x : Int) : List Int := l.filter (fun y => !decide (y = x))
theorem offI_no (l : List Int) (x : Int) (h : l.contains x = false) : offI l x = l := by
  unfold offI
  apply List.filter_eq_self.2
  intro y hy
  have : y ≠ x := fun e => by rw [e] at hy; rw [← List.contains_iff_mem] at hy; rw [h] at hy; cases hy
  simp [this]
theorem offI_at (l : List Int) (x : Int) (k : Nat) (hk : k < l.length) (hx : l.getD k 0 = x) (hnd : l.Nodup) : l.eraseIdx k = offI l x := by
  induction l generalizing k with
  | nil => simp at hk
  | cons y l ih =>
    rw [List.nodup_cons] at hnd
    cases k with
    | zero =>
      simp at hx
      subst hx
      have : offI l y = l := offI_no l y (by rw [← Bool.not_eq_true, List.contains_iff_mem]; exact hnd.1)
      unfold offI at this ⊢
      simp [this]
    | succ k =>
      simp at hk
      have hk2 : l.getD k 0 = x := by simpa [List.getD] using hx
      have hm : x ∈ l := by rw [← hk2]; simp [List.getD, hk]
      have hne : y ≠ x := fun e => hnd.1 (e ▸ hm)
      have := ih k hk hk2 hnd.2
      unfold offI at this ⊢
      simp [this, hne]
theorem getD_mem (l : List Int) (x : Int) (h : l.contains x = true) : ∃ k, k < l.length ∧ (∀ i, i < k → l.getD i 0 ≠ x) ∧ l.getD k 0 = x := by
  rcases first_in l x l.length with h1 | h1
  · rw [List.contains_iff_mem, List.mem_iff_getElem] at h
    obtain ⟨i, hi, e⟩ := h
    exact absurd (by simp [List.getD, hi, e]) (h1 i hi)
  · exact h1
theorem rn_of {w : World} {base q o b M g n c : Nat} {l : List Int} {D : DataW Unit} (h : VM w base q o b l (.slice (some ⟨g, 0, none⟩) n c) M D) (hn : l.length = n) : RN w g n l := by
  intro i hi
  have hr := h.row
  rw [hn] at hr
  rw [hr.cellAt i (by omega)]
  have : i < l.length := by omega
  simp [List.getD, this]
set_option maxRecDepth 100000 in
theorem vdrop_is {base q o b : Nat} {l : List Int} {S : Nat → Prop} (x : Int) (hx : wfI x) (hm : l.length ≤ 1000) (w : World) (h : VI w base q o b l S) :
    Calls Tryd.prog 86 #[.pointer (some ⟨q, o, none⟩), .int .i64 x] w fun e w' => ∃ t S', e = .returned (.bool t) ∧ VI w' base q o b (offI l x) S' ∧ VFr q o w w' S S' := by
  cases hin : l.contains x
  · have H := Lib.hid h
    have HIn := Lib.hid hin
    clear h hin
    go_enter Tryd.func86, Tryd.ntmps86
    go_wp2_with (first | (go_at_call 64; (with_reducible refine (qhas_is x hx false HIn _ H.out).mono ?_); rintro e w1 ⟨rfl, hb⟩; have HB := Lib.hid hb; clear hb))
    go_ret
    exact ⟨false, S, rfl, by rw [offI_no l x HIn.out]; exact H.out.below HB.out, VFr.of_below HB.out H.out.lt _⟩
  · obtain ⟨k, hk, hno, hyes⟩ := getD_mem l x hin
    obtain ⟨g, c, M, D, hQ, rfl⟩ := h.big (by omega)
    obtain ⟨n, HN⟩ : ∃ n, Hid (l.length = n) := ⟨_, Lib.hid rfl⟩
    have HIn := Lib.hid hin
    have HE := Lib.hid (offI_at l x k hk hyes hQ.nd)
    have HNo := Lib.hid hno
    have HYes := Lib.hid hyes
    rw [HN.out] at hQ hk hm ⊢
    have H := Lib.hid hQ
    clear h hin hno hyes hQ
    go_enter Tryd.func86, Tryd.ntmps86
    go_wp2_with (first
      | (go_at_call 64; (with_reducible refine (qhas_m x hx true HIn _ H.out).mono ?_); rintro e w1 ⟨rfl, hb⟩; have H1 := Lib.hid (H.out.below hb); have HB := Lib.hid hb; have c0 := H1.out.c0; have HRN := Lib.hid (rn_of H1.out HN.out); clear hb)
      | (go_at_call 97; (with_reducible refine (six_yes g n c k l x hm hk HNo HYes _ HRN.out).mono ?_); rintro e w2 ⟨rfl, rfl⟩)
      | (go_at_call 96; (with_reducible refine (qtake_m k HN hk (by omega) _ H1.out).mono ?_); rintro e w3 ⟨rfl, D', h3, f3⟩; have H3 := Lib.hid h3; have HF3 := Lib.hid f3; clear h3 f3))
    go_ret
    refine ⟨true, _, rfl, .inr ⟨_, M, D', by rw [← HE.out]; exact H3.out, rfl⟩, (VFr.of_below HB.out H.out.lt _).trans HF3.out⟩
end Go.Proofs.YtahhnfhnlffmpaaDoor.V
