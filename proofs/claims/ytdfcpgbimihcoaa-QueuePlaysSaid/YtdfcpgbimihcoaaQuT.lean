/-
  package queue over a law's start; chapter 13's first; QueueTurns.
-/
import Derived.Test.YtdfcpgbimihcoaaQu3
namespace Go.Proofs.Ytdfcpgbimihcoaa
open Go.ChangeShapes Go.WideShapes Go.ChangeAt Go.RowKit Go.Maps
set_option linter.unusedVariables false
theorem number_is (n m r : Int) (hm0 : 0 < m) (hm : m ≤ 1000) (h1 : -9223372036854775808 ≤ n) (h2 : n ≤ 9223372036854775807) (hr : Hid (n % m = r)) (w : World) :
    Calls Try.prog 12 #[.int .i64 n, .int .i64 m] w fun e w' => e = .returned (.int .i64 r) ∧ w = w' := by
  have e0 := Int.emod_nonneg n (show m ≠ 0 by omega)
  have e1 := Int.emod_lt_of_pos n hm0
  by_cases hn : 0 ≤ n
  · have hd : decide (n % m < 0) = false := decide_eq_false (by omega)
    have hm1 : 1 ≤ m := by omega
    go_enter Try.func12, Try.ntmps12
    go_wp2
    go_ret
    exact ⟨ret_i64 hr.out, rfl⟩
  · have ht := Int.tmod_eq_emod (a := n) (b := m)
    have hm1 : 1 ≤ m := by omega
    by_cases hdv : m ∣ n
    · rw [if_pos (Or.inr hdv)] at ht
      have hz := Int.emod_eq_zero_of_dvd hdv
      have ht2 : n.tmod m = 0 := by omega
      have hr0 : Hid (0 = r) := Lib.hid (by rw [← hr.out, hz])
      clear ht hz hdv e0 e1
      go_enter Try.func12, Try.ntmps12
      go_wp2
      go_ret
      exact ⟨ret_i64 hr0.out, rfl⟩
    · rw [if_neg (by omega)] at ht
      have hnz : n % m ≠ 0 := fun e => hdv (Int.dvd_of_emod_eq_zero e)
      obtain ⟨t, ht2⟩ : ∃ t, n.tmod m = t := ⟨_, rfl⟩
      have hab : (m.natAbs : Int) = m := by omega
      have hlt : t < 0 := by omega
      have hge : -1000 ≤ t := by omega
      have hr0 : Hid (t + m = r) := Lib.hid (by rw [← hr.out]; omega)
      have hd : decide (t < 0) = true := decide_eq_true hlt
      clear ht hdv e0 e1 hnz hab
      go_enter Try.func12, Try.ntmps12
      go_wp2
      go_ret
      exact ⟨ret_i64 hr0.out, rfl⟩
theorem number_nat (n m : Int) (M : Nat) (hm : m = (M : Int)) (hm0 : 0 < M) (hm1 : M ≤ 1000) (h1 : -9223372036854775808 ≤ n) (h2 : n ≤ 9223372036854775807) : ∃ r : Nat, r < M ∧ ∀ w, Calls Try.prog 12 #[.int .i64 n, .int .i64 m] w fun e w' => e = .returned (.int .i64 r) ∧ w = w' := by
  have e0 := Int.emod_nonneg n (show m ≠ 0 by omega)
  have e1 := Int.emod_lt_of_pos n (show 0 < m by omega)
  refine ⟨(n % m).toNat, by omega, fun w => ?_⟩
  exact number_is n m _ (by omega) (by omega) h1 h2 (Lib.hid (by omega)) w
/-- A queue, and below the law's start all as it was. -/
structure QV (W w : World) (base q b : Nat) (l : List Int) (S : Nat → Prop) : Prop where
  bel : Below W.heap.size W w
  wb : W.heap.size ≤ base
  bs : base ≤ w.heap.size
  qi : QI w base q b l S
section
variable {W w w' : World} {base q b : Nat} {l l' : List Int} {S S' : Nat → Prop}
theorem QV.step (h : QV W w base q b l S) (hb : Below w.heap.size w w') : QV W w' base q b l S := ⟨h.bel.trans (hb.mono h.bel.size), h.wb, Nat.le_trans h.bs hb.size, h.qi.below hb⟩
theorem QV.turn {b' : Nat} (h : QV W w base q b l S) (hq : QI w' base q b' l' S') (hf : QFr w w' S S') : QV W w' base q b' l' S' :=
  ⟨h.bel.trans (hf.below (fun k hk => Nat.le_trans h.wb (h.qi.lo k hk)) h.bel.size), h.wb, Nat.le_trans h.bs hf.size, hq⟩
theorem QV.begun (h : Below W.heap.size W w) : QV W (w.alloc (.cells #[.slice none 0 0, .map none] 27)) w.heap.size w.heap.size 0 [] (SN w.heap.size) := ⟨h.alloc h.size _, h.size, by simp, QI.begun w (Nat.le_refl _)⟩
theorem QV.new (h : QV W w base q b l S) : ¬ S w.heap.size := fun hs => by have := h.qi.hi _ hs; omega
theorem src1 (w : World) (x : Int) (hx : wfI x) (t : TypeId) (S : Nat → Prop) (hS : ¬ S w.heap.size) : Src (w.alloc (.cells #[.int .i64 x] t)) (some ⟨w.heap.size, 0, none⟩) [x] S := by
  refine ⟨by simpa using hx, fun _ => ⟨_, rfl, by simp, hS, fun i hi => ?_⟩⟩
  match i, hi with
  | 0, _ => simp [Addr.add, List.getD]
theorem src2 (w : World) (x y : Int) (hx : wfI x) (hy : wfI y) (t : TypeId) (S : Nat → Prop) (hS : ¬ S w.heap.size) : Src (w.alloc (.cells #[.int .i64 x, .int .i64 y] t)) (some ⟨w.heap.size, 0, none⟩) [x, y] S := by
  refine ⟨by simp [hx, hy], fun _ => ⟨_, rfl, by simp, hS, fun i hi => ?_⟩⟩
  match i, hi with
  | 0, _ | 1, _ => simp [Addr.add, List.getD]
theorem qput_one (h : QV W w base q b l S) (x : Int) (hx : wfI x) (t : TypeId) (r : Int) (hr : Hid (((putAll l [x]).length : Int) - l.length = r)) (hl : l.length ≤ 100000) (hb : b ≤ 100000) :
    Calls Try.prog 10 #[.pointer (some ⟨q, 0, none⟩), .slice (some ⟨w.heap.size, 0, none⟩) 1 1] (w.alloc (.cells #[.int .i64 x] t)) fun e w' => e = .returned (.int .i64 r) ∧ ∃ S', QV W w' base q (b + 1) (putAll l [x]) S' := by
  have h2 := h.step ((Below.refl _ _).alloc (Nat.le_refl _) (.cells #[.int .i64 x] t))
  exact (qput_is _ 1 1 [x] (Lib.hid rfl) (by omega) hl hb r hr _ h2.qi (src1 w x hx t S h.new) h2.bs).mono fun e w' ⟨S', he, hq, hf⟩ => ⟨he, S', h2.turn hq hf⟩
theorem qput_two (h : QV W w base q b l S) (x y : Int) (hx : wfI x) (hy : wfI y) (t : TypeId) (r : Int) (hr : Hid (((putAll l [x, y]).length : Int) - l.length = r)) (hl : l.length ≤ 100000) (hb : b ≤ 100000) :
    Calls Try.prog 10 #[.pointer (some ⟨q, 0, none⟩), .slice (some ⟨w.heap.size, 0, none⟩) 2 2] (w.alloc (.cells #[.int .i64 x, .int .i64 y] t)) fun e w' => e = .returned (.int .i64 r) ∧ ∃ S', QV W w' base q (b + 2) (putAll l [x, y]) S' := by
  have h2 := h.step ((Below.refl _ _).alloc (Nat.le_refl _) (.cells #[.int .i64 x, .int .i64 y] t))
  exact (qput_is _ 2 2 [x, y] (Lib.hid rfl) (by omega) hl hb r hr _ h2.qi (src2 w x y hx hy t S h.new) h2.bs).mono fun e w' ⟨S', he, hq, hf⟩ => ⟨he, S', h2.turn hq hf⟩
theorem qpick_v (h : QV W w base q b l S) (x : Int) (hx1 : -9223372036854775808 ≤ x) (hx2 : x ≤ 9223372036854775807) (n r : Nat) (y : Int) (hn : Hid (l.length = n)) (hn0 : 0 < n) (hm : n ≤ 1000000) (hr : Hid (x % (n : Int) = r)) (hy : Hid (l.getD r 0 = y)) :
    Calls Try.prog 11 #[.pointer (some ⟨q, 0, none⟩), .int .i64 x] w fun e w' => e = .returned (.tuple #[.int .i64 y, .bool true]) ∧ ∃ S', QV W w' base q b (l.eraseIdx r) S' :=
  (qpick_some x hx1 hx2 hn hn0 hm r hr y hy w h.qi).mono fun e w' ⟨he, S', hq, hf⟩ => ⟨he, S', h.turn hq hf⟩
theorem qhas_v (h : QV W w base q b l S) (x : Int) (hx : wfI x) (t : Bool) (ht : Hid (l.contains x = t)) :
    Calls Try.prog 17 #[.pointer (some ⟨q, 0, none⟩), .int .i64 x] w fun e w' => e = .returned (.bool t) ∧ QV W w' base q b l S :=
  (qhas_is x hx t ht w h.qi).mono fun e w' ⟨he, hb⟩ => ⟨he, h.step hb⟩
theorem qlen_v (h : QV W w base q b l S) (n : Nat) (hn : Hid (l.length = n)) : Calls Try.prog 16 #[.pointer (some ⟨q, 0, none⟩)] w fun e w' => e = .returned (.int .i64 n) ∧ w = w' := qlen_any n hn w h.qi
end
theorem putAll_35 : putAll [] [3, 5] = [3, 5] := by decide
set_option maxRecDepth 100000 in
theorem qfirst_is (w : World) : Calls Try.prog 8 #[] w fun e w' => e = .returned (.bool true) ∧ Below w.heap.size w w' := by
  have H0 := Lib.hid (QV.begun (Below.refl w.heap.size w))
  have hsz : (w.alloc (.cells #[.slice none 0 0, .map none] 27)).heap.size = w.heap.size + 1 := by simp
  have HP := fun t => Lib.hid (hsz ▸ qput_two H0.out 3 5 (wfI.mk (by decide) (by decide)) (wfI.mk (by decide) (by decide)) t 2 (Lib.hid (by decide)) (by decide) (by decide))
  clear hsz
  go_enter Try.func8, Try.ntmps8
  go_wp2_with (first
    | (go_at_call 10; (with_reducible refine (HP _).out.mono ?_); rintro e w1 ⟨rfl, S1, h1⟩; rw [putAll_35] at h1; have H1 := Lib.hid h1; clear h1)
    | (go_at_call 11; (with_reducible refine (qpick_v H1.out (-1) (by decide) (by decide) 2 1 5 (Lib.hid rfl) (by decide) (by decide) (Lib.hid (by decide)) (Lib.hid rfl)).mono ?_); rintro e w2 ⟨rfl, S2, h2⟩; have H2 := Lib.hid h2; clear h2))
  go_ret
  exact ⟨rfl, H2.out.bel⟩
/-- 0, 3, 6 .. -/
def trip (k : Nat) : List Int := (List.range k).map fun j : Nat => (j : Int) * 3
theorem trip_len (k : Nat) : (trip k).length = k := by simp [trip]
theorem trip_not (k : Nat) : (trip k).contains ((k : Int) * 3) = false := by
  rw [← Bool.not_eq_true, List.contains_iff_mem]
  intro h
  simp [trip] at h
  obtain ⟨j, h1, h2⟩ := h
  omega
theorem trip_put (k : Nat) : putAll (trip k) [(k : Int) * 3] = trip (k + 1) := by
  unfold putAll
  simp only [List.foldl_cons, List.foldl_nil, trip_not]
  simp [trip, List.range_succ]
/-- The same, gone round i times. -/
def rot (n i : Nat) : List Int := (List.range n).map fun j : Nat => (((i + j) % n : Nat) : Int) * 3
theorem rot_len (n i : Nat) : (rot n i).length = n := by simp [rot]
theorem rot_zero (n : Nat) : rot n 0 = trip n := by
  unfold rot trip
  apply List.map_congr_left
  intro j hj
  rw [List.mem_range] at hj
  rw [Nat.zero_add, Nat.mod_eq_of_lt hj]
theorem rot_head (n i : Nat) (hn : 0 < n) : (rot n i).getD 0 0 = ((i % n : Nat) : Int) * 3 := by
  simp [rot, List.getD, hn]
theorem rot_next (n i : Nat) (hn : 0 < n) : (rot n i).eraseIdx 0 ++ [((i % n : Nat) : Int) * 3] = rot n (i + 1) := by
  apply List.ext_getElem?
  intro j
  have hl : ((rot n i).eraseIdx 0).length = n - 1 := by rw [List.length_eraseIdx_of_lt (by rw [rot_len]; exact hn), rot_len]
  rcases Nat.lt_trichotomy j (n - 1) with h | h | h
  · rw [List.getElem?_append_left (by omega)]
    simp only [List.eraseIdx_zero, List.getElem?_tail]
    simp [rot, show j + 1 < n by omega, show j < n by omega]
    congr 2
    omega
  · rw [List.getElem?_append_right (by omega), hl, h, Nat.sub_self]
    simp [rot, show n - 1 < n by omega]
    have : i + 1 + (n - 1) = i + n := by omega
    have e : ((i + 1 + (n - 1) : Nat) : Int) % n = (i : Int) % n := by rw [this]; simp
    rw [← e]
    push_cast
    rfl
  · rw [List.getElem?_eq_none (by rw [List.length_append, hl, List.length_singleton]; omega), List.getElem?_eq_none (by rw [rot_len]; omega)]
theorem rot_not (n i : Nat) (hn : 0 < n) (hnd : (rot n i).Nodup) : ((rot n i).eraseIdx 0).contains (((i % n : Nat) : Int) * 3) = false := by
  rw [erase_has _ 0 (by rw [rot_len]; exact hn) hnd, rot_head n i hn]
  simp
theorem rot_put (n i : Nat) (hn : 0 < n) (hnd : (rot n i).Nodup) : putAll ((rot n i).eraseIdx 0) [((i % n : Nat) : Int) * 3, ((i % n : Nat) : Int) * 3] = rot n (i + 1) := by
  have h := rot_not n i hn hnd
  unfold putAll
  simp only [List.foldl_cons, List.foldl_nil, h, if_false, Bool.false_eq_true]
  rw [if_pos (by simp), rot_next n i hn]
set_option maxRecDepth 100000 in
set_option maxHeartbeats 4000000 in
theorem turns_any (n0 t0 : Int) (g1 : -9223372036854775808 ≤ n0) (g2 : n0 ≤ 9223372036854775807) (g3 : -9223372036854775808 ≤ t0) (g4 : t0 ≤ 9223372036854775807) (w : World) :
    Calls Try.prog 4 #[.int .i64 n0, .int .i64 t0] w fun e w' => e = .returned (.bool true) ∧ Below w.heap.size w w' := by
  obtain ⟨R, hR, CR⟩ := number_nat n0 20 20 rfl (by decide) (by decide) g1 g2
  obtain ⟨T, hT, CT⟩ := number_nat t0 60 60 rfl (by decide) (by decide) g3 g4
  have CR' := Lib.hid CR
  have CT' := Lib.hid CT
  clear CR CT g1 g2 g3 g4
  go_enter Try.func4, Try.ntmps4
  go_wp2_with (first
    | (go_at_call 8; refine (qfirst_is _).mono ?_; rintro e w1 ⟨rfl, hb1⟩; have HQ0 := Lib.hid (QV.begun hb1); clear hb1)
    | (go_at_call 12; (with_reducible refine (CR'.out _).mono ?_); rintro e w2 ⟨rfl, rfl⟩)
    | (go_at_call 12; (with_reducible refine (CT'.out _).mono ?_); rintro e w2 ⟨rfl, rfl⟩))
  obtain ⟨q, hq⟩ : ∃ q, q = w1.heap.size := ⟨_, rfl⟩
  rw [← hq] at HQ0 ⊢
  clear hq
  go_loopw [7] (fun i wr => ∃ (k : Nat) (S : Nat → Prop), k ≤ R + 1 ∧ i = .int .i64 k ∧ QV w wr q q k (trip k) S) (fun i _ => R + 1 - (intOf i).toNat)
  case atStart => exact ⟨0, _, by omega, rfl, HQ0.out⟩
  case round =>
    obtain ⟨k, S, hk, rfl, hQ⟩ := hrel
    have HQ := Lib.hid hQ
    clear hQ
    by_cases hlt : k < R + 1
    · go_wp2_with (first
        | (go_at_call 10; (with_reducible refine (qput_one HQ.out ((k : Int) * 3) (wfI.mk (by omega) (by omega)) _ _ (Lib.hid rfl) (by rw [trip_len]; omega) (by omega)).mono ?_); rintro e w3 ⟨rfl, S3, h3⟩; rw [trip_put] at h3; have HQ3 := Lib.hid h3; clear h3))
      go_roundw
      case rel => exact ⟨k + 1, S3, by omega, by go_num, HQ3.out⟩
      case measure => simp [intOf]; omega
    · obtain rfl : k = R + 1 := by omega
      have HQr : Hid (QV w wr q q (R + 1 + 2 * 0) (rot (R + 1) 0) S) := Lib.hid (by rw [rot_zero]; exact HQ.out)
      clear HQ
      go_wp2_with fail
      rw [show (((R + 1 : Nat)) : Int) = (R : Int) + 1 by omega]
      go_loopw [8] (fun i wx => ∃ (m : Nat) (S : Nat → Prop), m ≤ T ∧ i = .int .i64 m ∧ QV w wx q q (R + 1 + 2 * m) (rot (R + 1) m) S) (fun i _ => T - (intOf i).toNat)
      case atStart => exact ⟨0, _, by omega, rfl, HQr.out⟩
      case round =>
        obtain ⟨m, S2, hm, rfl, hQ⟩ := hrel
        have HQ := Lib.hid hQ
        clear hQ
        by_cases hlt : m < T
        · obtain ⟨y, HY⟩ : ∃ y : Nat, Hid (m % (R + 1) = y) := ⟨_, Lib.hid rfl⟩
          have hy : y < R + 1 := by rw [← HY.out]; exact Nat.mod_lt _ (by omega)
          have hmod : (m : Int) % ((R : Int) + 1) = y := by rw [← HY.out]; simp
          have HN : Hid ((rot (R + 1) m).Nodup) := Lib.hid HQ.out.qi.nd
          have H1 : Hid ((rot (R + 1) m).getD 0 0 = (y : Int) * 3) := Lib.hid (by rw [rot_head _ _ (by omega), HY.out])
          have H2 : Hid (((rot (R + 1) m).eraseIdx 0).contains ((y : Int) * 3) = false) := Lib.hid (by rw [← HY.out]; exact rot_not _ _ (by omega) HN.out)
          have H3 : Hid (putAll ((rot (R + 1) m).eraseIdx 0) [(y : Int) * 3, (y : Int) * 3] = rot (R + 1) (m + 1)) := Lib.hid (by rw [← HY.out]; exact rot_put _ _ (by omega) HN.out)
          have HE : Hid (((rot (R + 1) m).eraseIdx 0).length = R) := Lib.hid (by rw [List.length_eraseIdx_of_lt (by rw [rot_len]; omega), rot_len]; omega)
          have hyw := wfI.mk (a := (y : Int) * 3) (by omega) (by omega)
          go_wp2_with (first
            | (go_at_call 11; (with_reducible refine (qpick_v HQ.out 0 (by decide) (by decide) (R + 1) 0 ((y : Int) * 3) (Lib.hid (rot_len _ _)) (by omega) (by omega) (Lib.hid (by simp)) H1).mono ?_); rintro e w4 ⟨rfl, S4, h4⟩; have HQ4 := Lib.hid h4; clear h4)
            | (go_at_call 17; (with_reducible refine (qhas_v HQ4.out ((y : Int) * 3) hyw false H2).mono ?_); rintro e w5 ⟨rfl, h5⟩; have HQ5 := Lib.hid h5; clear h5)
            | (go_at_call 10; (with_reducible refine (qput_two HQ5.out ((y : Int) * 3) ((y : Int) * 3) hyw hyw _ 1 (Lib.hid (by rw [H3.out, rot_len, HE.out]; omega)) (by rw [HE.out]; omega) (by omega)).mono ?_); rintro e w6 ⟨rfl, S6, h6⟩; rw [H3.out] at h6; have HQ6 := Lib.hid h6; clear h6))
          go_roundw
          case rel => exact ⟨m + 1, S6, by omega, by go_num, HQ6.out⟩
          case measure => simp [intOf]; omega
        · obtain rfl : m = T := by omega
          have hdd : decide (m < m) = false := by simp
          go_wp2_with (first
            | (go_at_call 16; (with_reducible refine (qlen_v HQ.out (R + 1) (Lib.hid (rot_len _ _))).mono ?_); rintro e w4 ⟨rfl, rfl⟩))
          go_ret
          exact ⟨by simp, HQ.out.bel⟩
theorem walk_QueueTurns (a0 : Int) (a1 : Int) (w : World) (w0 : (Lit.int .i64 a0).wf = true) (w1 : (Lit.int .i64 a1).wf = true) :
    Calls Try.prog 4 #[.int .i64 a0, .int .i64 a1] w fun e w' => e = .returned (.bool true) ∧ Below w.heap.size w w' :=
  turns_any a0 a1 (wfI.fit w0).1 (wfI.fit w0).2 (wfI.fit w1).1 (wfI.fit w1).2 w
end Go.Proofs.Ytdfcpgbimihcoaa
