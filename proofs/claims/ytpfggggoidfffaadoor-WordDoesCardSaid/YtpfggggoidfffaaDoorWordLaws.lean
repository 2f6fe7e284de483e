import Derived.Test.YtpfggggoidfffaaDoorNames
import Derived.Deep.RegionWith
namespace Go.Proofs.YtpfggggoidfffaaDoor
open Go.ChangeShapes Go.WideShapes Go.ChangeAt Go.RowKit
set_option linter.unusedVariables false

theorem do_one (a : Int) (t : Bool) (ht : doB a = t) (w : World) : Calls Tryd.prog 6 #[.int .i64 a, .int .u32 1, .int .u32 1] w fun e w' => (∃ x, e = .returned (.tuple #[.int .u32 x, .bool t])) ∧ w = w' :=
  (do_any a 1 1 ⟨by decide, by decide⟩ ⟨by decide, by decide⟩ w).mono fun e w' h => ⟨⟨_, by rw [← ht]; exact h.1⟩, h.2⟩
theorem name_is (op : Int) (s : ByteArray) (hs : Hid (nmB op = s)) (w : World) (h : NamesAt w) :
    Calls Tryd.prog 8 #[.int .i64 op] w fun e w' => e = .returned (.string s) ∧ w = w' := by
  rw [← hs.out]; exact name_any op w h
theorem names_other (a b : Int) (s t : ByteArray) (w : World) (h : NamesAt w) (ha : 0 ≤ a) (ha' : a ≤ 11) (hs : Hid (nmB a = s)) (ht : Hid (nmB b = t)) (hd : doB a = true) (hne : (a == b) = false)
    (h1 : s.toList.isEmpty = false) (h2 : (s.toList == t.toList) = false) :
    Calls Tryd.prog 4 #[.int .i64 a, .int .i64 b] w fun e w' => e = .returned (.bool true) ∧ w = w' := by
  have h3 : ¬ s.toList = [] := by intro e; rw [e] at h1; cases h1
  go_enter Tryd.func4, Tryd.ntmps4
  go_wp2_with (first | (go_at_call 5; refine (first_any _).mono ?_; rintro e w' ⟨rfl, rfl⟩) | (go_at_call 6; refine (do_one _ _ hd _).mono ?_; rintro e w' ⟨⟨x, rfl⟩, rfl⟩) | (go_at_call_of 8 (Value.int .i64 a); refine (name_is a s hs _ h).mono ?_; rintro e w' ⟨rfl, rfl⟩) | (go_at_call_of 8 (Value.int .i64 b); refine (name_is b t ht _ h).mono ?_; rintro e w' ⟨rfl, rfl⟩))
  go_ret
  exact ⟨rfl, rfl⟩
theorem names_same (a : Int) (s : ByteArray) (w : World) (h : NamesAt w) (ha : 0 ≤ a) (ha' : a ≤ 11) (hs : Hid (nmB a = s)) (hd : doB a = true)
    (h1 : s.toList.isEmpty = false) :
    Calls Tryd.prog 4 #[.int .i64 a, .int .i64 a] w fun e w' => e = .returned (.bool true) ∧ w = w' := by
  have h3 : ¬ s.toList = [] := by intro e; rw [e] at h1; cases h1
  go_enter Tryd.func4, Tryd.ntmps4
  go_wp2_with (first | (go_at_call 5; refine (first_any _).mono ?_; rintro e w' ⟨rfl, rfl⟩) | (go_at_call 6; refine (do_one _ _ hd _).mono ?_; rintro e w' ⟨⟨x, rfl⟩, rfl⟩) | (go_at_call_of 8 (Value.int .i64 a); refine (name_is a s hs _ h).mono ?_; rintro e w' ⟨rfl, rfl⟩))
  go_ret
  exact ⟨rfl, rfl⟩
theorem names_none (a b : Int) (s : ByteArray) (w : World) (h : NamesAt w) (ha : a < 0 ∨ 11 < a) (hs : Hid (nmB a = s)) (hd : doB a = false)
    (h1 : s.toList.isEmpty = true) (h3 : s.toList = []) :
    Calls Tryd.prog 4 #[.int .i64 a, .int .i64 b] w fun e w' => e = .returned (.bool true) ∧ w = w' := by
  have HA := Lib.hid h3
  clear h3
  by_cases hab : a = b
  · subst hab
    rcases ha with ha | ha
    · go_enter Tryd.func4, Tryd.ntmps4
      go_wp2_with (first | (go_at_call 5; refine (first_any _).mono ?_; rintro e w' ⟨rfl, rfl⟩) | (go_at_call 6; refine (do_one _ _ hd _).mono ?_; rintro e w' ⟨⟨x, rfl⟩, rfl⟩) | (go_at_call_of 8 (Value.int .i64 a); refine (name_is a s hs _ h).mono ?_; rintro e w' ⟨rfl, rfl⟩))
      go_ret
      exact ⟨rfl, rfl⟩
    · have hx : decide (a ≤ 11) = false := by simp; omega
      go_enter Tryd.func4, Tryd.ntmps4
      go_wp2_with (first | (go_at_call 5; refine (first_any _).mono ?_; rintro e w' ⟨rfl, rfl⟩) | (go_at_call 6; refine (do_one _ _ hd _).mono ?_; rintro e w' ⟨⟨x, rfl⟩, rfl⟩) | (go_at_call_of 8 (Value.int .i64 a); refine (name_is a s hs _ h).mono ?_; rintro e w' ⟨rfl, rfl⟩))
      go_ret
      exact ⟨rfl, rfl⟩
  · have hne : (a == b) = false := by simpa using hab
    rcases ha with ha | ha
    · go_enter Tryd.func4, Tryd.ntmps4
      go_wp2_with (first | (go_at_call 5; refine (first_any _).mono ?_; rintro e w' ⟨rfl, rfl⟩) | (go_at_call 6; refine (do_one _ _ hd _).mono ?_; rintro e w' ⟨⟨x, rfl⟩, rfl⟩) | (go_at_call_of 8 (Value.int .i64 a); refine (name_is a s hs _ h).mono ?_; rintro e w' ⟨rfl, rfl⟩))
      go_ret
      exact ⟨rfl, rfl⟩
    · have hx : decide (a ≤ 11) = false := by simp; omega
      go_enter Tryd.func4, Tryd.ntmps4
      go_wp2_with (first | (go_at_call 5; refine (first_any _).mono ?_; rintro e w' ⟨rfl, rfl⟩) | (go_at_call 6; refine (do_one _ _ hd _).mono ?_; rintro e w' ⟨⟨x, rfl⟩, rfl⟩) | (go_at_call_of 8 (Value.int .i64 a); refine (name_is a s hs _ h).mono ?_; rintro e w' ⟨rfl, rfl⟩))
      go_ret
      exact ⟨rfl, rfl⟩

theorem nm_full : ∀ n : Fin 12, (⟨(nmL.getD n.val []).toArray⟩ : ByteArray).toList.isEmpty = false := by decide +kernel
theorem nm_unlike : ∀ n m : Fin 12, n = m ∨ ((⟨(nmL.getD n.val []).toArray⟩ : ByteArray).toList == (⟨(nmL.getD m.val []).toArray⟩ : ByteArray).toList) = false := by decide +kernel
theorem nm_unlike0 : ∀ n : Fin 12, ((⟨(nmL.getD n.val []).toArray⟩ : ByteArray).toList == (⟨#[]⟩ : ByteArray).toList) = false := by decide +kernel
theorem nm_none : (⟨#[]⟩ : ByteArray).toList = [] := by decide +kernel
theorem nmB_at (n : Nat) (h : n < 12) : nmB (n : Int) = ⟨(nmL.getD n []).toArray⟩ := by unfold nmB; rw [if_pos (by omega)]; rfl
theorem nmB_no (a : Int) (h : ¬ (0 ≤ a ∧ a ≤ 11)) : nmB a = ⟨#[]⟩ := by unfold nmB; rw [if_neg h]

theorem names_law (a b : Int) (w : World) (h : NamesAt w) :
    Calls Tryd.prog 4 #[.int .i64 a, .int .i64 b] w fun e w' => e = .returned (.bool true) ∧ w = w' := by
  by_cases ha : 0 ≤ a ∧ a ≤ 11
  · have hd : doB a = true := by simpa [doB] using ha
    obtain ⟨n, rfl⟩ : ∃ n : Nat, a = (n : Int) := ⟨a.toNat, by omega⟩
    have hn : n < 12 := by omega
    have e := nmB_at n hn
    have f1 : (nmB (n : Int)).toList.isEmpty = false := by rw [e]; exact nm_full ⟨n, hn⟩
    by_cases hab : (n : Int) = b
    · subst hab
      exact names_same n _ w h ha.1 ha.2 (Lib.hid rfl) hd f1
    · refine names_other n b _ _ w h ha.1 ha.2 (Lib.hid rfl) (Lib.hid rfl) hd (by simpa using hab) f1 ?_
      rw [e]
      by_cases hb : 0 ≤ b ∧ b ≤ 11
      · obtain ⟨m, rfl⟩ : ∃ m : Nat, b = (m : Int) := ⟨b.toNat, by omega⟩
        rw [nmB_at m (by omega)]
        rcases nm_unlike ⟨n, hn⟩ ⟨m, by omega⟩ with h1 | h1
        · exact absurd (congrArg Fin.val h1) (by simp; omega)
        · exact h1
      · rw [nmB_no b hb]; exact nm_unlike0 ⟨n, hn⟩
  · have hd : doB a = false := by simpa [doB] using ha
    refine names_none a b _ w h (by omega) (Lib.hid rfl) hd ?_ ?_
    · rw [nmB_no a ha, nm_none]; rfl
    · rw [nmB_no a ha, nm_none]

/-- The document's own Do: the same answers. -/
theorem one_any (t : Bool) (w : World) : Calls Tryd.prog 12 #[.bool t] w fun e w' => e = .returned (.int .u32 (if t then 1 else 0)) ∧ w = w' := by
  cases t
  all_goals
    go_enter Tryd.func12, Tryd.ntmps12
    go_wp2
    go_ret
    exact ⟨rfl, rfl⟩
theorem rdo_any (op a b : Int) (ha : Fit a) (hb : Fit b) (w : World) : Calls Tryd.prog 7 #[.int .i64 op, .int .u32 a, .int .u32 b] w (DoPost op a b w) := by
  have ha0 := ha.lo
  have ha1 := ha.hi
  have hb0 := hb.lo
  have hb1 := hb.hi
  by_cases h : op = 0 ∨ op = 1 ∨ op = 2 ∨ op = 5 ∨ op = 6 ∨ op = 7
  · rcases h with rfl | rfl | rfl | rfl | rfl | rfl
    all_goals
      go_enter Tryd.func7, Tryd.ntmps7; go_wp2; go_ret2
      exact DoPost.mk _ _ _ _ _ _ rfl rfl
  by_cases h : op = 3
  · subst h
    by_cases h : b = 0
    · subst h
      go_enter Tryd.func7, Tryd.ntmps7; go_wp2; go_ret2
      exact DoPost.mk 3 _ _ _ _ _ (by simp [doV]) rfl
    · have hv : doV 3 a b = a / b := by simp [doV, h]
      go_enter Tryd.func7, Tryd.ntmps7; go_wp2; go_ret2
      exact DoPost.mk 3 _ _ _ _ _ hv rfl
  by_cases h : op = 4
  · subst h
    by_cases h : b = 0
    · subst h
      go_enter Tryd.func7, Tryd.ntmps7; go_wp2; go_ret2
      exact DoPost.mk 4 _ _ _ _ _ (by simp [doV]) rfl
    · have hv : doV 4 a b = a % b := by simp [doV, h]
      go_enter Tryd.func7, Tryd.ntmps7; go_wp2; go_ret2
      exact DoPost.mk 4 _ _ _ _ _ hv rfl
  by_cases h : op = 8 ∨ op = 9
  · by_cases hb32 : 32 ≤ b
    · have em : min b.toNat 32 = 32 := by omega
      have h8 : doV 8 a b = 0 := by show a * 2 ^ min b.toNat 32 % 4294967296 = 0; rw [em]; omega
      have h9 : doV 9 a b = 0 := by show a / 2 ^ min b.toNat 32 = 0; rw [em]; omega
      have H8 := Lib.hid h8
      have H9 := Lib.hid h9
      clear h8 h9 em
      rcases h with rfl | rfl
      · go_enter Tryd.func7, Tryd.ntmps7; go_wp2; go_ret2
        exact DoPost.mk _ _ _ _ _ _ H8.out rfl
      · go_enter Tryd.func7, Tryd.ntmps7; go_wp2; go_ret2
        exact DoPost.mk _ _ _ _ _ _ H9.out rfl
    · have em : min b.toNat 32 = b.toNat := by omega
      have h8 : doV 8 a b = a * 2 ^ b.toNat % 4294967296 := by show a * 2 ^ min b.toNat 32 % 4294967296 = _; rw [em]
      have h9 : doV 9 a b = a / 2 ^ b.toNat := by show a / 2 ^ min b.toNat 32 = _; rw [em]
      have H8 := Lib.hid h8
      have H9 := Lib.hid h9
      have hlt : b < 32 := by omega
      clear h8 h9 em
      rcases h with rfl | rfl
      · go_enter Tryd.func7, Tryd.ntmps7; go_wp2; go_ret2
        exact DoPost.mk _ _ _ _ _ _ H8.out rfl
      · go_enter Tryd.func7, Tryd.ntmps7; go_wp2; go_ret2
        exact DoPost.mk _ _ _ _ _ _ H9.out rfl
  by_cases h : op = 10
  · subst h
    by_cases h : a < b
    all_goals
      go_enter Tryd.func7, Tryd.ntmps7; go_wp2; go_ret2
      exact DoPost.mk 10 _ _ _ _ _ (by simp [doV]; omega) rfl
  by_cases h : op = 11
  · subst h
    by_cases h : a = b
    · subst h
      go_enter Tryd.func7, Tryd.ntmps7; go_wp2; go_ret2
      exact DoPost.mk 11 _ _ _ _ _ (by simp [doV]) rfl
    · have h' : (a == b) = false := by simpa using h
      go_enter Tryd.func7, Tryd.ntmps7; go_wp2; go_ret2
      exact DoPost.mk 11 _ _ _ _ _ (by simp [doV, h]) rfl
  have h0 : ¬ op = 0 := by omega
  have h1 : ¬ op = 1 := by omega
  have h2 : ¬ op = 2 := by omega
  have h3 : ¬ op = 3 := by omega
  have h4 : ¬ op = 4 := by omega
  have h5 : ¬ op = 5 := by omega
  have h6 : ¬ op = 6 := by omega
  have h7 : ¬ op = 7 := by omega
  have h8 : ¬ op = 8 := by omega
  have h9 : ¬ op = 9 := by omega
  have h10 : ¬ op = 10 := by omega
  have h11 : ¬ op = 11 := by omega
  have HV : Hid (doV op a b = 0) := Lib.hid (by simp [doV, h0, h1, h2, h3, h4, h5, h6, h7, h8, h9, h10, h11])
  have H : Hid (doB op = false) := Lib.hid (by simp [doB]; omega)
  clear ha hb
  go_enter Tryd.func7, Tryd.ntmps7; go_wp2; go_ret2
  exact DoPost.mk _ _ _ _ _ _ HV.out H.out

theorem opname_is (op : Int) (s : ByteArray) (hs : Hid (nmB op = s)) (w : World) :
    Calls Tryd.prog 9 #[.int .i64 op] w fun e w' => e = .returned (.string s) ∧ Below w.heap.size w w' := by
  rw [← hs.out]; exact opname_any op w
def DoIs (x : Int) (t : Bool) (w : World) (e : Ending) (w' : World) : Prop := e = .returned (.tuple #[.int .u32 x, .bool t]) ∧ w = w'
theorem do_is (op a b x : Int) (t : Bool) (hx : Hid (doV op a b = x)) (ht : Hid (doB op = t)) (ha : Fit a) (hb : Fit b) (w : World) : Calls Tryd.prog 6 #[.int .i64 op, .int .u32 a, .int .u32 b] w (DoIs x t w) :=
  (do_any op a b ha hb w).mono fun e w' h => by unfold DoPost at h; rw [hx.out, ht.out] at h; exact h
theorem rdo_is (op a b x : Int) (t : Bool) (hx : Hid (doV op a b = x)) (ht : Hid (doB op = t)) (ha : Fit a) (hb : Fit b) (w : World) : Calls Tryd.prog 7 #[.int .i64 op, .int .u32 a, .int .u32 b] w (DoIs x t w) :=
  (rdo_any op a b ha hb w).mono fun e w' h => by unfold DoPost at h; rw [hx.out, ht.out] at h; exact h
theorem does_law (op a b x : Int) (t : Bool) (s : ByteArray) (fa : Fit a) (fb : Fit b) (hx : Hid (doV op a b = x)) (ht : Hid (doB op = t)) (hs : Hid (nmB op = s)) (w : World) (h : NamesAt w) :
    Calls Tryd.prog 3 #[.int .i64 op, .int .u32 a, .int .u32 b] w fun e w' => e = .returned (.bool true) ∧ Below w.heap.size w w' := by
  go_enter Tryd.func3, Tryd.ntmps3
  go_wp2_with (first | (go_at_call 5; refine (first_any _).mono ?_; rintro e w' ⟨rfl, rfl⟩) | (go_at_call 6; refine (do_is op a b x t hx ht fa fb _).mono ?_; rintro e w' ⟨rfl, rfl⟩) | (go_at_call 7; refine (rdo_is op a b x t hx ht fa fb _).mono ?_; rintro e w' ⟨rfl, rfl⟩) | (go_at_call 8; refine (name_is op s hs _ h).mono ?_; rintro e w' ⟨rfl, rfl⟩) | (go_at_call 9; refine (opname_is op s hs _).mono ?_; rintro e w' ⟨rfl, hb⟩))
  go_ret
  exact ⟨rfl, hb⟩
end Go.Proofs.YtpfggggoidfffaaDoor
