/-
  QueuePlays: turnkeyref.Among; Drop of one that is there; plain mathematics.
-/
import Derived.Test.YtdfcpgbimihcoaaQuA
import Derived.Test.YtdfcpgbimihcoaaReads
namespace Go.Proofs.Ytdfcpgbimihcoaa
open Go.ChangeShapes Go.WideShapes Go.ChangeAt Go.RowKit Go.Maps
set_option linter.unusedVariables false
/-- All but one. -/
def but (l : List Int) (x : Int) : List Int := l.filter fun y => !(y == x)
theorem but_snoc (l : List Int) (y x : Int) : but (l ++ [y]) x = if (y == x) = true then but l x else but l x ++ [y] := by
  unfold but
  rw [List.filter_append]
  by_cases h : (y == x) = true
  · rw [if_pos h]; simp [h]
  · rw [if_neg h]
    have h' : (y == x) = false := by simpa using h
    simp [h']
theorem but_not (l : List Int) (x : Int) (h : l.contains x = false) : but l x = l := by
  unfold but
  apply List.filter_eq_self.2
  intro y hy
  have : y ≠ x := by
    intro e
    subst e
    rw [← Bool.not_eq_true, List.contains_iff_mem] at h
    exact h hy
  simp [this]
theorem but_erase (l : List Int) (k : Nat) (x : Int) (hk : k < l.length) (hx : l.getD k 0 = x) (hnd : l.Nodup) : l.eraseIdx k = but l x := by
  have e : l.getD k 0 = l[k] := by simp [List.getD, hk]
  rw [e] at hx
  have hl : l = l.take k ++ l[k] :: l.drop (k + 1) := by
    rw [← List.drop_eq_getElem_cons hk, List.take_append_drop]
  have hn : (l.take k ++ l[k] :: l.drop (k + 1)).Nodup := by rw [← hl]; exact hnd
  rw [List.nodup_append] at hn
  obtain ⟨h1, h2, h3⟩ := hn
  rw [List.nodup_cons] at h2
  have a : but (l.take k) x = l.take k := by
    apply but_not
    rw [← Bool.not_eq_true, List.contains_iff_mem]
    intro hm
    exact h3 x hm l[k] (.head _) hx.symm
  have b : but (l.drop (k + 1)) x = l.drop (k + 1) := by
    apply but_not
    rw [← Bool.not_eq_true, List.contains_iff_mem]
    intro hm
    exact h2.1 (hx ▸ hm)
  rw [List.eraseIdx_eq_take_drop_succ]
  conv => rhs; rw [hl]
  unfold but at a b ⊢
  rw [List.filter_append, List.filter_cons, a, b, hx]
  simp
theorem first_at (l : List Int) (x : Int) (h : l.contains x = true) : ∃ k, k < l.length ∧ l.getD k 0 = x ∧ ∀ j, j < k → l.getD j 0 ≠ x := by
  induction l with
  | nil => simp at h
  | cons y l ih =>
    by_cases e : y = x
    · exact ⟨0, by simp, by simpa using e, fun j hj => by omega⟩
    · have h' : l.contains x = true := by
        rw [List.contains_iff_mem] at h ⊢
        rcases List.mem_cons.1 h with h | h
        · exact absurd h.symm e
        · exact h
      obtain ⟨k, h1, h2, h3⟩ := ih h'
      refine ⟨k + 1, by simpa using h1, by simpa using h2, fun j hj => ?_⟩
      cases j with
      | zero => simpa using e
      | succ j => simpa using h3 j (by omega)
set_option maxRecDepth 100000 in
theorem among_is (a : Option Addr) (c n : Nat) (xs : List Int) (hn : Hid (xs.length = n)) (hm : n ≤ 1000000) (x : Int) (t : Bool) (ht : Hid (xs.contains x = t)) (w : World) (hx : RI w a xs) :
    Calls Try.prog 9 #[.slice a n c, .int .i64 x] w fun e w' => e = .returned (.bool t) ∧ Below w.heap.size w w' := by
  have HX := Lib.hid hx
  clear hx
  go_enter Try.func9, Try.ntmps9
  go_wp2_with fail
  go_loopw [5] (fun i wr => ∃ k : Nat, k ≤ n ∧ i = .int .i64 k ∧ (xs.take k).contains x = false ∧ Below w.heap.size w wr) (fun i _ => n - (intOf i).toNat)
  case atStart => exact ⟨0, by omega, rfl, by simp, Below.refl _ _⟩
  case round =>
    obtain ⟨k, hk, rfl, hno, hb⟩ := hrel
    have HB := Lib.hid hb
    have HNo := Lib.hid hno
    clear hno
    by_cases hlt : k < n
    · have hkx : k < xs.length := by rw [hn.out]; exact hlt
      obtain ⟨ad, rfl, h1, c1⟩ := (HX.out.below hb) k hkx
      have E1 := Lib.hid (take_succ' xs k hkx)
      have HM : Hid (xs.getD k 0 ∈ xs) := Lib.hid (by simp [List.getD, hkx])
      generalize xs.getD k 0 = y at c1 E1 HM
      have k0 : (0 : Int) ≤ (k : Int) := by omega
      have k1 : (k : Int) < (n : Int) := by omega
      clear hb h1 hkx
      cases hyx : (y == x)
      · have HN2 : Hid ((xs.take (k + 1)).contains x = false) := Lib.hid (by
          rw [E1.out, ← Bool.not_eq_true, List.contains_iff_mem]
          intro hmem
          rcases List.mem_append.1 hmem with h | h
          · have := HNo.out
            rw [← Bool.not_eq_true, List.contains_iff_mem] at this
            exact this h
          · simp at h
            simp [h] at hyx)
        go_wp2_with fail
        go_roundw
        case rel => exact ⟨k + 1, by omega, by go_num, HN2.out, HB.out⟩
        case measure => simp [intOf]; omega
      · have HT : Hid (t = true) := Lib.hid (by
          rw [← ht.out, List.contains_iff_mem]
          have e : y = x := by simpa using hyx
          rw [← e]
          exact HM.out)
        go_wp2_with fail
        go_ret
        exact ⟨by rw [HT.out]; rfl, HB.out⟩
    · obtain rfl : n = k := by omega
      have hdd : decide (n < n) = false := by simp
      have HT : Hid (t = false) := Lib.hid (by
        rw [← ht.out, ← HNo.out, List.take_of_length_le (by rw [hn.out]; exact Nat.le_refl _)])
      clear hb
      go_wp2_with fail
      go_ret
      exact ⟨by rw [HT.out]; rfl, HB.out⟩
theorem qindex_is {base q b n g c : Nat} {l : List Int} (k : Nat) (x : Int) (hn : Hid (l.length = n)) (hk : Hid (k < l.length ∧ l.getD k 0 = x ∧ ∀ j, j < k → l.getD j 0 ≠ x)) (hm : n ≤ 1000000) (w : World) (hr : w.ownsRow base 3 1 (.slice (some ⟨g, 0, none⟩) n c) n (l.map (Value.int .i64))) :
    Calls Try.prog 25 #[.slice (some ⟨g, 0, none⟩) n c, .int .i64 x] w fun e w' => e = .returned (.int .i64 k) ∧ w' = w := by
  have hl := hn.out
  refine (Try.slices_Index_int g 0 n c l x w (by omega) (by omega) (fun j hj => by rw [Nat.zero_add, hr.cellAt j (by omega)]; simp [List.getD, hj])).mono fun e w' ⟨h1, h2⟩ => ⟨?_, h2⟩
  rw [h1, Lib.idxOf_hit l n k x (by have := hk.out.1; omega) (by omega) hk.out.2.1 hk.out.2.2]
set_option maxRecDepth 100000 in
theorem qdrop_yes {W w : World} {base q b n : Nat} {l : List Int} {S : Nat → Prop} (x : Int) (hx : wfI x) (hyes : Hid (l.contains x = true)) (hn : Hid (l.length = n)) (hm : n ≤ 1000000) (h : QV W w base q b l S) :
    Calls Try.prog 13 #[.pointer (some ⟨q, 0, none⟩), .int .i64 x] w fun e w' => e = .returned (.bool true) ∧ ∃ S', QI w' base q b (but l x) S' ∧ QFr w w' S S' := by
  obtain ⟨k, hk1, hk2, hk3⟩ := first_at l x hyes.out
  have HK := Lib.hid (⟨hk1, hk2, hk3⟩ : k < l.length ∧ l.getD k 0 = x ∧ ∀ j, j < k → l.getD j 0 ≠ x)
  have HE := Lib.hid (but_erase l k x hk1 hk2 h.qi.nd)
  have hkn : k < n := by rw [← hn.out]; exact hk1
  have H := Lib.hid h
  clear h hk1 hk2 hk3
  go_enter Try.func13, Try.ntmps13
  go_wp2_with (first
    | (go_at_call 17; (with_reducible refine (qhas_is x hx true hyes _ H.out.qi).mono ?_); rintro e w2 ⟨rfl, hb2⟩; have H2 := Lib.hid (H.out.qi.below hb2); have HF2 := Lib.hid (QFr.of_below hb2 S); obtain ⟨g, c, M, D, hQ, hS⟩ := H2.out.big (by rw [hn.out]; omega); have hr := hQ.row; rw [hn.out] at hr; have hc0 := hQ.at.1; rw [hn.out] at hc0; have HR := Lib.hid hr; clear hb2 hQ hr hS)
    | (go_at_call 25; (with_reducible refine (qindex_is (base := base) (q := q) (b := b) k x hn HK hm _ HR.out).mono ?_); rintro e w3 ⟨rfl, rfl⟩)
    | (go_at_call 24; (with_reducible refine (qtake_is k hn hkn hm _ H2.out).mono ?_); rintro e w4 ⟨rfl, S4, h4, f4⟩; rw [HE.out] at h4; have H4 := Lib.hid h4; have HF4 := Lib.hid (HF2.out.trans f4); clear h4 f4))
  go_ret
  exact ⟨rfl, S4, H4.out, HF4.out⟩
end Go.Proofs.Ytdfcpgbimihcoaa
