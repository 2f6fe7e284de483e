/-
  Sx, Fg, Fd, Fe as one.
-/
import Derived.Test.YtedidopkemjgeaaDoorP9
import Derived.Test.YtedidopkemjgeaaDoorP11
import Derived.Test.YtedidopkemjgeaaDoorP10
namespace Go.Proofs.YtedidopkemjgeaaDoor
open Go.ChangeShapes Go.WideShapes Go.ChangeAt Go.RowKit
set_option linter.unusedVariables false
/-- Numbers that are read there. -/
def RN (w : World) (g d : Nat) (xs : List Int) : Prop := ∀ i, i < d → w.cell? ⟨g, i, none⟩ = some (.int .i64 (xs.getD i 0))
set_option maxRecDepth 100000 in
theorem six_no (g d c' : Nat) (xs : List Int) (v : Int) (hd : d ≤ 1000) (hno : Hid (∀ i, i < d → xs.getD i 0 ≠ v)) (w : World) (hr : RN w g d xs) :
    Calls Tryd.prog 83 #[.slice (some ⟨g, 0, none⟩) d c', .int .i64 v] w fun e w' => e = .returned (.int .i64 (-1)) ∧ w = w' := by
  have HR := Lib.hid hr
  clear hr
  go_enter Tryd.func83, Tryd.ntmps83
  go_wp2_with fail
  go_loop [8] (fun i => ∃ k : Nat, k ≤ d ∧ i = .int .i64 k) (fun i => d - (intOf i).toNat)
  case atStart => exact ⟨0, by omega, rfl⟩
  case round =>
    obtain ⟨k, hk, rfl⟩ := hrel
    by_cases hlt : k < d
    · have hc := HR.out k hlt
      have hne := hno.out k hlt
      generalize xs.getD k 0 = x at hc hne
      have hb : (v == x) = false := beq_eq_false_iff_ne.2 (Ne.symm hne)
      have k0 : (0 : Int) ≤ k := by omega
      have k1 : (k : Int) < d := by omega
      clear hne
      go_wp2_with fail
      go_round
      case rel => exact ⟨k + 1, by omega, by go_num⟩
      case measure => simp [intOf]; omega
    · obtain rfl : d = k := by omega
      have hdd : decide (d < d) = false := by simp
      go_wp2_with fail
      go_ret
      exact ⟨rfl, rfl⟩
set_option maxRecDepth 100000 in
theorem six_yes (g d c' q : Nat) (xs : List Int) (v : Int) (hd : d ≤ 1000) (hq : q < d) (hno : Hid (∀ i, i < q → xs.getD i 0 ≠ v)) (hyes : Hid (xs.getD q 0 = v)) (w : World) (hr : RN w g d xs) :
    Calls Tryd.prog 83 #[.slice (some ⟨g, 0, none⟩) d c', .int .i64 v] w fun e w' => e = .returned (.int .i64 q) ∧ w = w' := by
  have HR := Lib.hid hr
  clear hr
  go_enter Tryd.func83, Tryd.ntmps83
  go_wp2_with fail
  go_loop [8] (fun i => ∃ k : Nat, k ≤ q ∧ i = .int .i64 k) (fun i => d - (intOf i).toNat)
  case atStart => exact ⟨0, by omega, rfl⟩
  case round =>
    obtain ⟨k, hk, rfl⟩ := hrel
    have hc := HR.out k (by omega)
    have k0 : (0 : Int) ≤ k := by omega
    have k1 : (k : Int) < d := by omega
    by_cases hlt : k < q
    · have hne := hno.out k hlt
      generalize xs.getD k 0 = x at hc hne
      have hb : (v == x) = false := beq_eq_false_iff_ne.2 (Ne.symm hne)
      clear hne
      go_wp2_with fail
      go_round
      case rel => exact ⟨k + 1, by omega, by go_num⟩
      case measure => simp [intOf]; omega
    · obtain rfl : q = k := by omega
      rw [hyes.out] at hc
      have hb : (v == v) = true := beq_self_eq_true v
      go_wp2_with fail
      go_ret
      exact ⟨rfl, rfl⟩
theorem first_in (xs : List Int) (v : Int) : ∀ d, (∀ i, i < d → xs.getD i 0 ≠ v) ∨ ∃ q, q < d ∧ (∀ i, i < q → xs.getD i 0 ≠ v) ∧ xs.getD q 0 = v := by
  intro d
  induction d with
  | zero => exact .inl (fun i hi => by omega)
  | succ d ih =>
    rcases ih with h | ⟨q, h1, h2⟩
    · by_cases e : xs.getD d 0 = v
      · exact .inr ⟨d, by omega, h, e⟩
      · refine .inl (fun i hi => ?_)
        by_cases h3 : i = d
        · subst h3; exact e
        · exact h i (by omega)
    · exact .inr ⟨q, by omega, h2⟩
theorem scon_is (g d c' : Nat) (xs : List Int) (v : Int) (hd : d ≤ 1000) (b : Bool) (hb : Hid ((b = true) ↔ ∃ i, i < d ∧ xs.getD i 0 = v)) (w : World) (hr : RN w g d xs) :
    Calls Tryd.prog 55 #[.slice (some ⟨g, 0, none⟩) d c', .int .i64 v] w fun e w' => e = .returned (.bool b) ∧ w = w' := by
  rcases first_in xs v d with h | ⟨q, h1, h2, h3⟩
  · have HC := Lib.hid (six_no g d c' xs v hd (Lib.hid h) w hr)
    obtain rfl : b = false := by
      cases b
      · rfl
      · obtain ⟨i, h4, h5⟩ := hb.out.1 rfl
        exact absurd h5 (h i h4)
    clear hr h hb
    go_enter Tryd.func55, Tryd.ntmps55
    go_wp2_with (first | (go_at_call 83; (with_reducible refine HC.out.mono ?_); rintro e w1 ⟨rfl, rfl⟩))
    go_ret
    exact ⟨rfl, rfl⟩
  · have HC := Lib.hid (six_yes g d c' q xs v hd h1 (Lib.hid h2) (Lib.hid h3) w hr)
    obtain rfl : b = true := hb.out.2 ⟨q, h1, h3⟩
    have q0 : decide ((0 : Int) ≤ (q : Int)) = true := decide_eq_true (by omega)
    clear hr h2 h3 hb
    go_enter Tryd.func55, Tryd.ntmps55
    go_wp2_with (first | (go_at_call 83; (with_reducible refine HC.out.mono ?_); rintro e w1 ⟨rfl, rfl⟩))
    go_ret
    exact ⟨rfl, rfl⟩
end Go.Proofs.YtedidopkemjgeaaDoor
namespace Go.Proofs.YtedidopkemjgeaaDoor
open Go.ChangeShapes Go.WideShapes Go.ChangeAt Go.RowKit
set_option linter.unusedVariables false
set_option linter.unusedSimpArgs false
/-- The nodes of which is told: in a box a row of numbers. -/
structure FgAt (w : World) (nb gn : Nat) (c' : Nat) (xs : List Int) : Prop where
  bl : nb < w.heap.size
  gl : gn < w.heap.size
  bx : w.cell? ⟨nb, 0, none⟩ = some (.slice (some ⟨gn, 0, none⟩) xs.length c')
  rn : RN w gn xs.length xs
theorem FgAt.same {w w' : World} {nb gn c' : Nat} {xs : List Int} (h : FgAt w nb gn c' xs) (hs : w.heap.size ≤ w'.heap.size) (e1 : w'.heap[nb]? = w.heap[nb]?) (e2 : w'.heap[gn]? = w.heap[gn]?) : FgAt w' nb gn c' xs :=
  ⟨Nat.lt_of_lt_of_le h.bl hs, Nat.lt_of_lt_of_le h.gl hs, (World.cell?_of_block (a := ⟨nb, 0, none⟩) e1).trans h.bx, fun i hi => (World.cell?_of_block (a := ⟨gn, i, none⟩) e2).trans (h.rn i hi)⟩
theorem FgAt.below {w w' : World} {nb gn c' : Nat} {xs : List Int} (h : FgAt w nb gn c' xs) (hb : Below w.heap.size w w') : FgAt w' nb gn c' xs := h.same hb.size (hb.block _ h.bl) (hb.block _ h.gl)
theorem contains_at (xs : List Int) (id : Int) : (xs.contains id = true) ↔ ∃ i, i < xs.length ∧ xs.getD i 0 = id := by
  rw [List.contains_iff_mem, List.mem_iff_getElem]
  constructor
  · rintro ⟨i, hi, h⟩; exact ⟨i, hi, by simp [List.getD, hi, h]⟩
  · rintro ⟨i, hi, h⟩; exact ⟨i, hi, by simpa [List.getD, hi] using h⟩
set_option maxRecDepth 100000 in
theorem cforget11_is (id : Int) (nb gn c' : Nat) (xs : List Int) (hx : xs.length ≤ 1000) (t : Bool) (ht : Hid (xs.contains id = t)) (w : World) (h : FgAt w nb gn c' xs) :
    Calls Tryd.prog 54 #[.int .i64 id, .pointer (some ⟨nb, 0, none⟩)] w fun e w' => e = .returned (.bool t) ∧ w = w' := by
  have bx := h.bx
  have HC := Lib.hid (scon_is gn xs.length c' xs id hx t (Lib.hid (by rw [← ht.out]; exact contains_at xs id)) w h.rn)
  obtain ⟨m, hm⟩ : ∃ m, xs.length = m := ⟨_, rfl⟩
  rw [hm] at bx HC
  clear h hm
  go_enter Tryd.func54, Tryd.ntmps54
  go_wp2_with (first | (go_at_call 55; (with_reducible refine HC.out.mono ?_); rintro e w1 ⟨rfl, rfl⟩))
  go_ret
  exact ⟨rfl, rfl⟩
/-- A way's nodes, where they are read. -/
def IdsAt (w : World) (na : Option Addr) (ids : List Int) : Prop := ∀ i, i < ids.length → ∃ g o, na = some ⟨g, o, none⟩ ∧ w.cell? ⟨g, o + i, none⟩ = some (.int .i64 (ids.getD i 0))
theorem IdsAt.head {w : World} {na : Option Addr} {ids : List Int} (h : IdsAt w na ids) (hl : 0 < ids.length) : ∃ g o, na = some ⟨g, o, none⟩ ∧ ∀ i, i < ids.length → w.cell? ⟨g, o + i, none⟩ = some (.int .i64 (ids.getD i 0)) := by
  obtain ⟨g, o, h1, _⟩ := h 0 hl
  refine ⟨g, o, h1, fun i hi => ?_⟩
  obtain ⟨g', o', h2, h3⟩ := h i hi
  rw [h1] at h2
  injection h2 with h2
  injection h2 with h2 h2'
  rw [h2, h2']
  exact h3
set_option maxRecDepth 100000 in
theorem iidx_no (nb gn c' : Nat) (xs : List Int) (hx : xs.length ≤ 1000) (na : Option Addr) (ids : List Int) (d nc : Nat) (hd : Hid (ids.length = d)) (hd1 : d ≤ 1000) (hno : Hid (∀ i, i < d → xs.contains (ids.getD i 0) = false)) (w : World) (h : FgAt w nb gn c' xs) (hi : IdsAt w na ids) :
    Calls Tryd.prog 82 #[.slice na d nc, (.func (.func 54) #[] #[.pointer (some ⟨nb, 0, none⟩)])] w fun e w' => e = .returned (.int .i64 (-1)) ∧ w = w' := by
  have H := Lib.hid h
  have HI := Lib.hid hi
  clear h hi
  go_enter Tryd.func82, Tryd.ntmps82
  go_wp2_with fail
  go_loop [8] (fun i => ∃ k : Nat, k ≤ d ∧ i = .int .i64 k) (fun i => d - (intOf i).toNat)
  case atStart => exact ⟨0, by omega, rfl⟩
  case round =>
    obtain ⟨k, hk, rfl⟩ := hrel
    have k0 : (0 : Int) ≤ k := by omega
    by_cases hlt : k < d
    · obtain ⟨g, o, rfl, hc⟩ := HI.out.head (by rw [hd.out]; omega)
      have hc := hc k (by rw [hd.out]; exact hlt)
      have HN := Lib.hid (hno.out k hlt)
      have k1 : (k : Int) < d := by omega
      generalize ids.getD k 0 = x at hc HN
      go_wp2_with (first | (go_at_call 54; (with_reducible refine (cforget11_is x nb gn c' xs hx false HN _ H.out).mono ?_); rintro e w1 ⟨rfl, rfl⟩))
      go_round
      case rel => exact ⟨k + 1, by omega, by go_num⟩
      case measure => simp [intOf]; omega
    · have hdd : ¬ (k : Int) < d := by omega
      go_wp2_with fail
      go_ret
      exact ⟨rfl, rfl⟩
set_option maxRecDepth 100000 in
theorem iidx_yes (nb gn c' : Nat) (xs : List Int) (hx : xs.length ≤ 1000) (na : Option Addr) (ids : List Int) (d nc q : Nat) (hd : Hid (ids.length = d)) (hd1 : d ≤ 1000) (hq : q < d) (hyes : Hid (xs.contains (ids.getD q 0) = true)) (hno : Hid (∀ i, i < q → xs.contains (ids.getD i 0) = false)) (w : World) (h : FgAt w nb gn c' xs) (hi : IdsAt w na ids) :
    Calls Tryd.prog 82 #[.slice na d nc, (.func (.func 54) #[] #[.pointer (some ⟨nb, 0, none⟩)])] w fun e w' => e = .returned (.int .i64 q) ∧ w = w' := by
  have H := Lib.hid h
  have HI := Lib.hid hi
  clear h hi
  go_enter Tryd.func82, Tryd.ntmps82
  go_wp2_with fail
  go_loop [8] (fun i => ∃ k : Nat, k ≤ q ∧ i = .int .i64 k) (fun i => d - (intOf i).toNat)
  case atStart => exact ⟨0, by omega, rfl⟩
  case round =>
    obtain ⟨k, hk, rfl⟩ := hrel
    have k0 : (0 : Int) ≤ k := by omega
    obtain ⟨g, o, rfl, hc⟩ := HI.out.head (by rw [hd.out]; omega)
    have hc := hc k (by rw [hd.out]; omega)
    have k1 : (k : Int) < d := by omega
    by_cases hlt : k < q
    · have HN := Lib.hid (hno.out k hlt)
      generalize ids.getD k 0 = x at hc HN
      go_wp2_with (first | (go_at_call 54; (with_reducible refine (cforget11_is x nb gn c' xs hx false HN _ H.out).mono ?_); rintro e w1 ⟨rfl, rfl⟩))
      go_round
      case rel => exact ⟨k + 1, by omega, by go_num⟩
      case measure => simp [intOf]; omega
    · obtain rfl : q = k := by omega
      have HN := hyes
      generalize ids.getD q 0 = x at hc HN
      go_wp2_with (first | (go_at_call 54; (with_reducible refine (cforget11_is x nb gn c' xs hx true HN _ H.out).mono ?_); rintro e w1 ⟨rfl, rfl⟩))
      go_ret
      exact ⟨rfl, rfl⟩
/-- Is any of these nodes on it? -/
abbrev EW.on (e : EW) (xs : List Int) : Bool := e.ids.any (fun id => xs.contains id)
theorem first_p (p : Int → Bool) (ids : List Int) : ∀ d, (∀ i, i < d → p (ids.getD i 0) = false) ∨ ∃ q, q < d ∧ (∀ i, i < q → p (ids.getD i 0) = false) ∧ p (ids.getD q 0) = true := by
  intro d
  induction d with
  | zero => exact .inl (fun i hi => by omega)
  | succ d ih =>
    rcases ih with h | ⟨q, h1, h2⟩
    · cases e : p (ids.getD d 0) with
      | true => exact .inr ⟨d, by omega, h, e⟩
      | false =>
        refine .inl (fun i hi => ?_)
        by_cases h3 : i = d
        · subst h3; exact e
        · exact h i (by omega)
    · exact .inr ⟨q, by omega, h2⟩
theorem any_no {p : Int → Bool} {ids : List Int} (h : ∀ i, i < ids.length → p (ids.getD i 0) = false) : ids.any p = false := by
  rw [List.any_eq_false]
  intro x hx
  obtain ⟨i, hi, rfl⟩ := List.mem_iff_getElem.1 hx
  have := h i hi
  simp [List.getD, hi] at this
  simp [this]
theorem any_yes {p : Int → Bool} {ids : List Int} {q : Nat} (hq : q < ids.length) (h : p (ids.getD q 0) = true) : ids.any p = true := by
  rw [List.any_eq_true]
  refine ⟨ids[q], List.getElem_mem hq, ?_⟩
  simpa [List.getD, hq] using h
theorem scfun_is (nb gn c' : Nat) (xs : List Int) (hx : xs.length ≤ 1000) (na : Option Addr) (ids : List Int) (d nc : Nat) (hd : Hid (ids.length = d)) (hd1 : d ≤ 1000) (t : Bool) (ht : Hid ((ids.any fun id => xs.contains id) = t)) (w : World) (h : FgAt w nb gn c' xs) (hi : IdsAt w na ids) :
    Calls Tryd.prog 53 #[.slice na d nc, (.func (.func 54) #[] #[.pointer (some ⟨nb, 0, none⟩)])] w fun e w' => e = .returned (.bool t) ∧ w = w' := by
  rcases first_p (fun id => xs.contains id) ids d with hno | ⟨q, h1, h2, h3⟩
  · have HC := Lib.hid (iidx_no nb gn c' xs hx na ids d nc hd hd1 (Lib.hid hno) w h hi)
    obtain rfl : t = false := by rw [← ht.out]; exact any_no (by rw [hd.out]; exact hno)
    clear h hi hno ht
    go_enter Tryd.func53, Tryd.ntmps53
    go_wp2_with (first | (go_at_call 82; (with_reducible refine HC.out.mono ?_); rintro e w1 ⟨rfl, rfl⟩))
    go_ret
    exact ⟨rfl, rfl⟩
  · have HC := Lib.hid (iidx_yes nb gn c' xs hx na ids d nc q hd hd1 h1 (Lib.hid h3) (Lib.hid h2) w h hi)
    obtain rfl : t = true := by rw [← ht.out]; exact any_yes (by rw [hd.out]; exact h1) h3
    have q0 : decide ((0 : Int) ≤ (q : Int)) = true := decide_eq_true (by omega)
    clear h hi h2 h3 ht
    go_enter Tryd.func53, Tryd.ntmps53
    go_wp2_with (first | (go_at_call 82; (with_reducible refine HC.out.mono ?_); rintro e w1 ⟨rfl, rfl⟩))
    go_ret
    exact ⟨rfl, rfl⟩
theorem NodesIn.at_ {w : World} {N cb : Nat} {v : Value} {e : EW} (h : NodesIn w N cb v e) : IdsAt w e.na e.ids := fun i hi => by
  obtain ⟨g, o, h1, _, _, _, _, h6⟩ := h i hi
  exact ⟨g, o, h1, h6⟩
theorem cforget1_is (nb gn c' : Nat) (xs : List Int) (hx : xs.length ≤ 1000) (e : EW) (hl : e.ids.length ≤ 1000) (t : Bool) (ht : Hid (e.on xs = t)) (w : World) (h : FgAt w nb gn c' xs) (hi : IdsAt w e.na e.ids) :
    Calls Tryd.prog 52 #[(Value.agg #[.int .i64 e.k0, .int .i64 e.k1, .int .i64 e.k2, .int .i64 e.k3, .int .u32 e.k4, .int .u32 e.sh, .int .i64 e.pg, .int .i64 e.at_, .bool e.ro, .slice e.na e.ids.length e.nc]), .pointer (some ⟨nb, 0, none⟩)] w fun r w' => r = .returned (.bool t) ∧ Below w.heap.size w w' := by
  obtain ⟨k0, k1, k2, k3, k4, sh, pg, at_, ro, ids, na, nc⟩ := e
  obtain ⟨d, hd⟩ : ∃ d, Hid (ids.length = d) := ⟨_, Lib.hid rfl⟩
  have hd1 : d ≤ 1000 := by rw [← hd.out]; exact hl
  have HC := Lib.hid (fun o => scfun_is nb gn c' xs hx na ids d nc hd hd1 t ht _ (h.below ((Below.refl _ _).alloc (Nat.le_refl _) _ : Below w.heap.size w (w.alloc o))) (fun i hii => by
    obtain ⟨g, o', h1, h2⟩ := hi i hii
    have hg : g < w.heap.size := World.block_lt_of_cell? w _ h2
    exact ⟨g, o', h1, (((Below.refl _ _).alloc (Nat.le_refl _) _ : Below w.heap.size w (w.alloc o)).cell (p := ⟨g, o' + i, none⟩) hg).trans h2⟩))
  have HC0 := Lib.hid (scfun_is nb gn c' xs hx na ids d nc hd hd1 t ht _ h hi)
  show Calls Tryd.prog 52 #[.agg #[.int .i64 k0, .int .i64 k1, .int .i64 k2, .int .i64 k3, .int .u32 k4, .int .u32 sh, .int .i64 pg, .int .i64 at_, .bool ro, .slice na ids.length nc], .pointer (some ⟨nb, 0, none⟩)] w _
  rw [hd.out]
  clear h hi
  go_enter Tryd.func52, Tryd.ntmps52
  go_wp2_with (first | (go_at_call 53; (with_reducible refine (HC.out _).mono ?_); rintro e w1 ⟨rfl, rfl⟩) | (go_at_call 53; (with_reducible refine HC0.out.mono ?_); rintro e w1 ⟨rfl, rfl⟩))
  go_ret
  exact ⟨rfl, (Below.refl _ _).alloc (Nat.le_refl _) _⟩
end Go.Proofs.YtedidopkemjgeaaDoor
namespace Go.Proofs.YtedidopkemjgeaaDoor
open Go.ChangeShapes Go.WideShapes Go.ChangeAt Go.RowKit
set_option linter.unusedVariables false
set_option linter.unusedSimpArgs false
/-- The ways that none of these nodes is on. -/
def offE (xs : List Int) (E : List EW) : List EW := E.filter (fun e => !e.on xs)
theorem offE_all {xs : List Int} {E : List EW} (h : ∀ e, e ∈ E → e.on xs = false) : offE xs E = E := by
  unfold offE
  rw [List.filter_eq_self]
  intro e he
  rw [h e he]
  rfl
theorem offE_take {xs : List Int} {E : List EW} {j : Nat} (h : ∀ (i : Nat) (e : EW), i < j → E[i]? = some e → e.on xs = false) : offE xs (E.take j) = E.take j := by
  refine offE_all (fun e he => ?_)
  obtain ⟨i, hi⟩ := List.mem_iff_getElem?.1 he
  rw [List.getElem?_take] at hi
  split at hi
  · exact h i e (by assumption) hi
  · cases hi
theorem offE_step (xs : List Int) (E : List EW) (k : Nat) (e : EW) (he : E[k]? = some e) : offE xs (E.take (k + 1)) = offE xs (E.take k) ++ (if e.on xs then [] else [e]) := by
  unfold offE
  rw [List.take_add_one, List.filter_append, he]
  congr 1
  cases h : e.on xs <;> simp [h]
theorem over_take (xs vs : List Value) (o m : Nat) (hm : m ≤ o) (hb : o + vs.length ≤ xs.length) : (over xs o vs).take m = xs.take m := by
  apply List.ext_getElem?
  intro j
  rw [List.getElem?_take, List.getElem?_take]
  by_cases hj : j < m
  · rw [if_pos hj, if_pos hj, over_get vs xs o j hb, if_neg (by omega)]
  · rw [if_neg hj, if_neg hj]
theorem over_drop (xs vs : List Value) (o m : Nat) (hm : o + vs.length ≤ m) (hb : o + vs.length ≤ xs.length) : (over xs o vs).drop m = xs.drop m := by
  apply List.ext_getElem?
  intro j
  rw [List.getElem?_drop, List.getElem?_drop, over_get vs xs o _ hb, if_neg (by omega)]
theorem over_in (xs vs : List Value) (o : Nat) (hb : o + vs.length ≤ xs.length) : (over xs o vs).take (o + vs.length) = xs.take o ++ vs := by
  apply List.ext_getElem?
  intro j
  rw [List.getElem?_take]
  by_cases hj : j < o
  · rw [if_pos (by omega), over_get vs xs o j hb, if_neg (by omega), List.getElem?_append_left (by rw [List.length_take]; omega), List.getElem?_take, if_pos hj]
  · have hl : (xs.take o).length = o := by rw [List.length_take]; omega
    by_cases hj2 : j < o + vs.length
    · rw [if_pos hj2, over_get vs xs o j hb, if_pos (by omega), List.getElem?_append_right (by omega), hl]
    · rw [if_neg hj2, List.getElem?_append_right (by omega), hl, List.getElem?_eq_none (by omega)]
theorem ewCells_len (E : List EW) : (ewCells E).length = E.length * 10 := by
  induction E with
  | nil => rfl
  | cons e E ih => show (e.cs ++ ewCells E).length = _; rw [List.length_append, e.cs_len, ih, List.length_cons]; omega
theorem ewCells_drop (E : List EW) (k : Nat) : (ewCells E).drop (k * 10) = ewCells (E.drop k) := by
  induction k generalizing E with
  | zero => simp
  | succ k ih =>
    cases E with
    | nil => simp [ewCells]
    | cons e E =>
      show (e.cs ++ ewCells E).drop ((k + 1) * 10) = ewCells (E.drop k)
      rw [show (k + 1) * 10 = 10 + k * 10 by omega, ← List.drop_drop, List.drop_left' e.cs_len, ih]
theorem ewCells_take (E : List EW) (k : Nat) : (ewCells E).take (k * 10) = ewCells (E.take k) := by
  induction k generalizing E with
  | zero => simp [ewCells]
  | succ k ih =>
    cases E with
    | nil => simp [ewCells]
    | cons e E =>
      show (e.cs ++ ewCells E).take ((k + 1) * 10) = e.cs ++ ewCells (E.take k)
      rw [show (k + 1) * 10 = e.cs.length + k * 10 by rw [e.cs_len]; omega, List.take_length_add_append, ih]
theorem row_way {w : World} {N g n c k : Nat} {ys : List Value} {E : List EW} (h : w.ownsRow N 110 10 (.slice (some ⟨g, 0, none⟩) n c) n ys) (hd : ys.drop (k * 10) = ewCells (E.drop k)) {e : EW} (he : E[k]? = some e) (hk : k < n) :
    w.cell? ⟨g, k * 10, none⟩ = some (.int .i64 e.k0) ∧ w.cell? ⟨g, k * 10 + 1, none⟩ = some (.int .i64 e.k1) ∧ w.cell? ⟨g, k * 10 + 2, none⟩ = some (.int .i64 e.k2) ∧ w.cell? ⟨g, k * 10 + 3, none⟩ = some (.int .i64 e.k3) ∧ w.cell? ⟨g, k * 10 + 4, none⟩ = some (.int .u32 e.k4) ∧ w.cell? ⟨g, k * 10 + 5, none⟩ = some (.int .u32 e.sh) ∧ w.cell? ⟨g, k * 10 + 6, none⟩ = some (.int .i64 e.pg) ∧ w.cell? ⟨g, k * 10 + 7, none⟩ = some (.int .i64 e.at_) ∧ w.cell? ⟨g, k * 10 + 8, none⟩ = some (.bool e.ro) ∧ w.cell? ⟨g, k * 10 + 9, none⟩ = some (.slice e.na e.ids.length e.nc) := by
  have cell : ∀ q u, q < 10 → e.cs[q]? = some u → w.cell? ⟨g, k * 10 + q, none⟩ = some u := fun q u hq hu => by
    rw [h.cellAt (k * 10 + q) (by omega), ← List.getElem?_drop, hd]
    have := ewCells_get (E.drop k) 0 q e (by rw [List.getElem?_drop]; exact he) hq
    rw [Nat.zero_mul, Nat.zero_add] at this
    rw [this, hu]
  exact ⟨cell 0 _ (by decide) rfl, cell 1 _ (by decide) rfl, cell 2 _ (by decide) rfl, cell 3 _ (by decide) rfl, cell 4 _ (by decide) rfl, cell 5 _ (by decide) rfl, cell 6 _ (by decide) rfl, cell 7 _ (by decide) rfl, cell 8 _ (by decide) rfl, cell 9 _ (by decide) rfl⟩
def zsW (k : Nat) : List Value := (Builtin.zeroCells (Value.agg #[Value.int .i64 0, .int .i64 0, .int .i64 0, .int .i64 0, .int .u32 0, .int .u32 0, .int .i64 0, .int .i64 0, .bool false, .slice none 0 0]).cells k).toList
theorem zcW : (Value.agg #[Value.int .i64 0, .int .i64 0, .int .i64 0, .int .i64 0, .int .u32 0, .int .u32 0, .int .i64 0, .int .i64 0, .bool false, .slice none 0 0]).cells = #[Value.int .i64 0, .int .i64 0, .int .i64 0, .int .i64 0, .int .u32 0, .int .u32 0, .int .i64 0, .int .i64 0, .bool false, .slice none 0 0] := by kernel_rfl
theorem zsW_len (k : Nat) : (zsW k).length = k * 10 := by
  unfold zsW
  rw [zcW]
  simp [Builtin.zeroCells]
theorem zsW_one (k : Nat) : ∀ u ∈ zsW k, u.oneCell' = true := by
  intro u hu
  unfold zsW at hu
  rw [zcW] at hu
  simp only [Builtin.zeroCells, Array.toList_map, List.mem_map] at hu
  obtain ⟨i, _, rfl⟩ := hu
  have h : ∀ r, r < 10 → (#[Value.int .i64 0, .int .i64 0, .int .i64 0, .int .i64 0, .int .u32 0, .int .u32 0, .int .i64 0, .int .i64 0, .bool false, .slice none 0 0][r]!).oneCell' = true := by
    intro r hr
    have : r = 0 ∨ r = 1 ∨ r = 2 ∨ r = 3 ∨ r = 4 ∨ r = 5 ∨ r = 6 ∨ r = 7 ∨ r = 8 ∨ r = 9 := by omega
    rcases this with rfl | rfl | rfl | rfl | rfl | rfl | rfl | rfl | rfl | rfl <;> rfl
  exact h _ (Nat.mod_lt _ (by decide))
theorem infoWA (e : EW) : (Tryd.prog.info? 110).map (·.size) = some ((#[Value.int .i64 e.k0, .int .i64 e.k1, .int .i64 e.k2, .int .i64 e.k3, .int .u32 e.k4, .int .u32 e.sh, .int .i64 e.pg, .int .i64 e.at_, .bool e.ro, .slice e.na e.ids.length e.nc])).size := by kernel_rfl
theorem wa_one (e : EW) : ((#[Value.int .i64 e.k0, .int .i64 e.k1, .int .i64 e.k2, .int .i64 e.k3, .int .u32 e.k4, .int .u32 e.sh, .int .i64 e.pg, .int .i64 e.at_, .bool e.ro, .slice e.na e.ids.length e.nc])).all (·.oneCell') = true := by simp [Value.oneCell']
theorem wa_list (e : EW) : ((#[Value.int .i64 e.k0, .int .i64 e.k1, .int .i64 e.k2, .int .i64 e.k3, .int .u32 e.k4, .int .u32 e.sh, .int .i64 e.pg, .int .i64 e.at_, .bool e.ro, .slice e.na e.ids.length e.nc])).toList = e.cs := rfl
set_option maxRecDepth 100000 in
theorem didx_none {N cb : Nat} {size hits : Int} {a : Option Addr} {n c : Nat} {E : List EW} (nb gn c' : Nat) (xs : List Int) (hx : xs.length ≤ 1000) (hn : Hid (E.length = n)) (hm : n ≤ 64) (hids : Hid (∀ e, e ∈ E → e.ids.length ≤ 1000)) (hno : Hid (∀ e, e ∈ E → e.on xs = false)) (w : World) (h : CacheAt w N cb size hits (.slice a n c) E) (hf : FgAt w nb gn c' xs) :
    Calls Tryd.prog 42 #[.slice a n c, (.func (.func 52) #[] #[.pointer (some ⟨nb, 0, none⟩)])] w fun e w' => e = .returned (.int .i64 (-1)) ∧ Below w.heap.size w w' := by
  have H := Lib.hid h
  have HF := Lib.hid hf
  clear h hf
  go_enter Tryd.func42, Tryd.ntmps42
  go_wp2_with fail
  go_loopw [8] (fun i wr => ∃ k : Nat, k ≤ n ∧ i = .int .i64 k ∧ Below w.heap.size w wr) (fun i _ => n - (intOf i).toNat)
  case atStart => exact ⟨0, by omega, rfl, Below.refl _ _⟩
  case round =>
    obtain ⟨k, hk, rfl, hB⟩ := hrel
    have HB := Lib.hid hB
    have HR := Lib.hid (H.out.below hB)
    have HFr := Lib.hid (HF.out.below hB)
    clear hB
    by_cases hlt : k < n
    · obtain ⟨e, he⟩ := getE (E := E) (k := k) (by rw [hn.out]; exact hlt)
      obtain ⟨g, c', hv⟩ := HR.out.row1 (by rw [hn.out]; omega)
      have hv' := hv
      simp only [Value.slice.injEq] at hv'
      obtain ⟨rfl, -, -⟩ := hv'
      obtain ⟨q0, q1, q2, q3, q4, q5, q6, q7, q8, q9⟩ := HR.out.way rfl k e he
      have HN := Lib.hid (hno.out e (List.mem_of_getElem? he))
      have HL := Lib.hid (hids.out e (List.mem_of_getElem? he))
      have HI := Lib.hid (HR.out.nd e (List.mem_of_getElem? he)).at_
      have k0 : (0 : Int) ≤ k := by omega
      have k1 : (k : Int) < n := by omega
      have k2 : (k : Int) < 64 := by omega
      clear he hv
      go_wp2_with (first
        | (go_at_call 52; (with_reducible refine (cforget1_is nb gn _ xs hx e HL.out false HN _ HFr.out HI.out).mono ?_); rintro e' w1 ⟨rfl, hb⟩; have HB1 := Lib.hid (HB.out.trans (hb.mono HB.out.size)); clear hb))
      go_roundw
      case rel => exact ⟨k + 1, by omega, by go_num, HB1.out⟩
      case measure => simp [intOf]; omega
    · have hdd : ¬ (k : Int) < n := by omega
      go_wp2_with fail
      go_ret
      exact ⟨rfl, HB.out⟩
set_option maxRecDepth 100000 in
theorem didx_at {N cb : Nat} {size hits : Int} {a : Option Addr} {n c : Nat} {E : List EW} (nb gn c' : Nat) (xs : List Int) (hx : xs.length ≤ 1000) (hn : Hid (E.length = n)) (hm : n ≤ 64) (hids : Hid (∀ e, e ∈ E → e.ids.length ≤ 1000)) (j : Nat) (d : EW) (hj : Hid (E[j]? = some d)) (hyes : Hid (d.on xs = true)) (hno : Hid (∀ (i : Nat) (e : EW), i < j → E[i]? = some e → e.on xs = false)) (w : World) (h : CacheAt w N cb size hits (.slice a n c) E) (hf : FgAt w nb gn c' xs) :
    Calls Tryd.prog 42 #[.slice a n c, (.func (.func 52) #[] #[.pointer (some ⟨nb, 0, none⟩)])] w fun e w' => e = .returned (.int .i64 j) ∧ Below w.heap.size w w' := by
  have H := Lib.hid h
  have HF := Lib.hid hf
  have hjn : j < n := by
    rw [← hn.out]
    rcases Nat.lt_or_ge j E.length with h' | h'
    · exact h'
    · have := hj.out; rw [List.getElem?_eq_none h'] at this; cases this
  clear h hf
  go_enter Tryd.func42, Tryd.ntmps42
  go_wp2_with fail
  go_loopw [8] (fun i wr => ∃ k : Nat, k ≤ j ∧ i = .int .i64 k ∧ Below w.heap.size w wr) (fun i _ => n - (intOf i).toNat)
  case atStart => exact ⟨0, by omega, rfl, Below.refl _ _⟩
  case round =>
    obtain ⟨k, hk, rfl, hB⟩ := hrel
    have HB := Lib.hid hB
    have HR := Lib.hid (H.out.below hB)
    have HFr := Lib.hid (HF.out.below hB)
    clear hB
    obtain ⟨e, he⟩ := getE (E := E) (k := k) (by rw [hn.out]; omega)
    obtain ⟨g, c', hv⟩ := HR.out.row1 (by rw [hn.out]; omega)
    have hv' := hv
    simp only [Value.slice.injEq] at hv'
    obtain ⟨rfl, -, -⟩ := hv'
    obtain ⟨q0, q1, q2, q3, q4, q5, q6, q7, q8, q9⟩ := HR.out.way rfl k e he
    have HL := Lib.hid (hids.out e (List.mem_of_getElem? he))
    have HI := Lib.hid (HR.out.nd e (List.mem_of_getElem? he)).at_
    have k0 : (0 : Int) ≤ k := by omega
    have k1 : (k : Int) < n := by omega
    have k2 : (k : Int) < 64 := by omega
    clear hv
    by_cases hlt : k < j
    · have HN := Lib.hid (hno.out k e hlt he)
      clear he
      go_wp2_with (first
        | (go_at_call 52; (with_reducible refine (cforget1_is nb gn _ xs hx e HL.out false HN _ HFr.out HI.out).mono ?_); rintro e' w1 ⟨rfl, hb⟩; have HB1 := Lib.hid (HB.out.trans (hb.mono HB.out.size)); clear hb))
      go_roundw
      case rel => exact ⟨k + 1, by omega, by go_num, HB1.out⟩
      case measure => simp [intOf]; omega
    · obtain rfl : k = j := by omega
      have HN : Hid (e.on xs = true) := Lib.hid (by have h1 := hj.out; rw [he] at h1; injection h1 with h1; rw [h1]; exact hyes.out)
      clear he
      go_wp2_with (first
        | (go_at_call 52; (with_reducible refine (cforget1_is nb gn _ xs hx e HL.out true HN _ HFr.out HI.out).mono ?_); rintro e' w1 ⟨rfl, hb⟩; have HB1 := Lib.hid (HB.out.trans (hb.mono HB.out.size)); clear hb))
      go_ret
      exact ⟨rfl, HB1.out⟩
theorem grown_of_below {w w' : World} {g : Option Nat} (h : Below w.heap.size w w') : w.grownBy w' g := ⟨h.os, h.tape, h.output, h.size, fun k hk _ => h.block k hk⟩
theorem FgAt.grown {w w' : World} {nb gn c' g : Nat} {xs : List Int} (h : FgAt w nb gn c' xs) (hg : w.grownBy w' (some g)) (h1 : nb ≠ g) (h2 : gn ≠ g) : FgAt w' nb gn c' xs :=
  h.same hg.size (hg.block _ h.bl (fun e => h1 (by injection e))) (hg.block _ h.gl (fun e => h2 (by injection e)))
theorem NodesIn.grown {w w' : World} {N cb g n c : Nat} {e : EW} (h : NodesIn w N cb (.slice (some ⟨g, 0, none⟩) n c) e) (hg : w.grownBy w' (some g)) : IdsAt w' e.na e.ids := fun i hi => by
  obtain ⟨g', o, h1, h2, h3, h4, h5, h6⟩ := h i hi
  exact ⟨g', o, h1, (World.cell?_of_block (a := ⟨g', o + i, none⟩) (hg.block g' h3 (fun e => h5 (by injection e with e; rw [e]; rfl)))).trans h6⟩
theorem IdsAt.below {w w' : World} {na : Option Addr} {ids : List Int} (h : IdsAt w na ids) (hb : Below w.heap.size w w') : IdsAt w' na ids := fun i hi => by
  obtain ⟨g, o, h1, h2⟩ := h i hi
  exact ⟨g, o, h1, (hb.cell (p := ⟨g, o + i, none⟩) (World.block_lt_of_cell? w _ h2)).trans h2⟩
theorem own_far {w w' : World} {B e s g n c : Nat} {xs : List Value} (h : w.ownsRow B e s (.slice (some ⟨g, 0, none⟩) n c) n xs) (hb : Below w.heap.size w w') : w'.ownsRow B e s (.slice (some ⟨g, 0, none⟩) n c) n xs := row_same' h (fun x hx => hb.block x (h.lt x hx).2)
set_option maxRecDepth 100000 in
theorem cdelfun_no {N cb : Nat} {size hits : Int} {a : Option Addr} {n c : Nat} {E : List EW} (nb gn c' : Nat) (xs : List Int) (hx : xs.length ≤ 1000) (hn : Hid (E.length = n)) (hm : n ≤ 64) (hids : Hid (∀ e, e ∈ E → e.ids.length ≤ 1000)) (HNO : Hid (∀ e, e ∈ E → e.on xs = false)) (w : World) (h : CacheAt w N cb size hits (.slice a n c) E) (hf : FgAt w nb gn c' xs) :
    Calls Tryd.prog 51 #[.slice a n c, (.func (.func 52) #[] #[.pointer (some ⟨nb, 0, none⟩)])] w fun r w' => r = .returned (.slice a n c) ∧ Below w.heap.size w w' := by
  have H := Lib.hid h
  have HF := Lib.hid hf
  clear h hf
  go_enter Tryd.func51, Tryd.ntmps51
  go_wp2_with (first
    | (go_at_call 42; (with_reducible refine (didx_none nb gn c' xs hx hn hm hids HNO _ H.out HF.out).mono ?_); rintro e w1 ⟨rfl, hb⟩; have HB := Lib.hid hb; clear hb))
  go_ret
  exact ⟨rfl, HB.out⟩
set_option maxRecDepth 100000 in
set_option maxHeartbeats 4000000 in
theorem cdelfun_is {N cb g : Nat} {size hits : Int} {n c : Nat} {E : List EW} (nb gn c' : Nat) (xs : List Int) (hx : xs.length ≤ 1000) (hn : Hid (E.length = n)) (hm : n ≤ 64) (hids : Hid (∀ e, e ∈ E → e.ids.length ≤ 1000)) (hsome : Hid (∃ (j : Nat) (d : EW), E[j]? = some d ∧ d.on xs = true ∧ ∀ (i : Nat) (e : EW), i < j → E[i]? = some e → e.on xs = false)) (w : World) (h : CacheAt w N cb size hits (.slice (some ⟨g, 0, none⟩) n c) E) (hf : FgAt w nb gn c' xs) (hne : Hid (nb ≠ g ∧ gn ≠ g)) :
    Calls Tryd.prog 51 #[.slice (some ⟨g, 0, none⟩) n c, (.func (.func 52) #[] #[.pointer (some ⟨nb, 0, none⟩)])] w fun r w' => ∃ m, r = .returned (.slice (some ⟨g, 0, none⟩) m c) ∧ (offE xs E).length = m ∧ w'.ownsRow N 110 10 (.slice (some ⟨g, 0, none⟩) m c) m (ewCells (offE xs E)) ∧ w.grownBy w' (some g) := by
  have H := Lib.hid h
  have HF := Lib.hid hf
  have HRow : Hid (World.ownsRow w N 110 10 (.slice (some ⟨g, 0, none⟩) n c) n (ewCells E)) := Lib.hid (by have := h.row; rw [hn.out] at this; exact this)
  have HC := Lib.hid (own_cap HRow.out)
  clear h hf
  obtain ⟨j, d, hj, hyes, hno⟩ := hsome.out
  have HJ := Lib.hid hj
  have HY : Hid (d.on xs = true) := Lib.hid hyes
  have HNO : Hid (∀ (i : Nat) (e : EW), i < j → E[i]? = some e → e.on xs = false) := Lib.hid hno
  have hjn : j < n := by
    rw [← hn.out]
    rcases Nat.lt_or_ge j E.length with h' | h'
    · exact h'
    · rw [List.getElem?_eq_none h'] at hj; cases hj
  have j0 : (0 : Int) ≤ j := by omega
  have j1 : (j : Int) < 64 := by omega
  have hjm : ((j : Int) == -1) = false := by simp
  have HJ2 : Hid (offE xs (E.take (j + 1)) = E.take j) := Lib.hid (by rw [offE_step xs E j d hj, offE_take hno]; have hy : d.on xs = true := hyes; rw [if_pos hy, List.append_nil])
  have HEl : Hid ((E.take j).length = j) := Lib.hid (by rw [List.length_take, hn.out]; omega)
  clear hj hyes hno
  go_enter Tryd.func51, Tryd.ntmps51
  go_wp2_with (first
    | (go_at_call 42; (with_reducible refine (didx_at nb gn c' xs hx hn hm hids j d HJ HY HNO _ H.out HF.out).mono ?_); rintro e w1 ⟨rfl, hb⟩; have HB := Lib.hid hb; clear hb))
  go_loopw [5, 6, 7] (fun iv jv _ wr => ∃ (i k : Nat) (ys : List Value), iv = .int .i64 i ∧ jv = .int .i64 k ∧ (offE xs (E.take k)).length = i ∧ i < k ∧ k ≤ n ∧ World.ownsRow wr N 110 10 (.slice (some ⟨g, 0, none⟩) n c) n ys ∧ ys.take (i * 10) = ewCells (offE xs (E.take k)) ∧ ys.drop (k * 10) = ewCells (E.drop k) ∧ w.grownBy wr (some g)) (fun _ jv _ _ => n - (intOf jv).toNat)
  case atStart =>
    refine ⟨j, j + 1, ewCells E, rfl, by go_num, ?_, by omega, by omega, own_far HRow.out HB.out, ?_, ewCells_drop _ _, grown_of_below HB.out⟩
    · rw [HJ2.out, HEl.out]
    · rw [HJ2.out, ewCells_take]
  case round =>
    obtain ⟨i, k, ys, rfl, rfl, hi, hik, hkn, hrow, htk, hdr, hgr⟩ := hrel
    have HI := Lib.hid hi
    have HIK := Lib.hid (And.intro hik hkn)
    have HR := Lib.hid hrow
    have HTK := Lib.hid htk
    have HDR := Lib.hid hdr
    have HG := Lib.hid hgr
    have i0 : (0 : Int) ≤ i := by omega
    have i1 : (i : Int) < 64 := by omega
    have k0 : (0 : Int) ≤ k := by omega
    have k64 : (k : Int) ≤ 64 := by omega
    have i2 : (i : Int) < n := by omega
    clear hi hrow htk hdr hgr
    by_cases hlt : k < n
    · obtain ⟨e, he⟩ := getE (E := E) (k := k) (by rw [hn.out]; exact hlt)
      obtain ⟨q0, q1, q2, q3, q4, q5, q6, q7, q8, q9⟩ := row_way HR.out HDR.out he hlt
      have HE := Lib.hid he
      have HEm := Lib.hid (List.mem_of_getElem? he)
      have k1 : (k : Int) < n := by omega
      clear he
      go_upto_region 8 with fail
      clear q0 q1 q2 q3 q4 q5 q6 q7 q8 q9
      obtain ⟨wB, hwB⟩ : ∃ wB, wB = wr.alloc (.cells (#[Value.int .i64 e.k0, .int .i64 e.k1, .int .i64 e.k2, .int .i64 e.k3, .int .u32 e.k4, .int .u32 e.sh, .int .i64 e.pg, .int .i64 e.at_, .bool e.ro, .slice e.na e.ids.length e.nc]) 110 (0, 0)) := ⟨_, rfl⟩
      rw [← hwB]
      have HWB : Hid (WayAt wB wr.heap.size e) := Lib.hid (by rw [hwB]; exact WayAt.new _ _ _)
      have HBB : Hid (Below wr.heap.size wr wB) := Lib.hid (by rw [hwB]; exact (Below.refl _ _).alloc (Nat.le_refl _) _)
      have HGB := Lib.hid (grown_chain HG.out (grown_of_below HBB.out))
      have HFB := Lib.hid (HF.out.grown HGB.out hne.out.1 hne.out.2)
      have HIB := Lib.hid ((H.out.nd e HEm.out).grown HGB.out)
      have HRB := Lib.hid (own_far HR.out HBB.out)
      have HL := Lib.hid (hids.out e HEm.out)
      obtain ⟨xb, hxb⟩ : ∃ xb, Hid (wr.heap.size = xb) := ⟨_, Lib.hid rfl⟩
      have HXg : Hid (xb ≠ g) := Lib.hid (by rw [← hxb.out]; have := (HR.out.lt g rfl).2; omega)
      rw [hxb.out] at HWB ⊢
      clear hwB HBB HG
      have c0 := HWB.out.c0
      have c1 := HWB.out.c1
      have c2 := HWB.out.c2
      have c3 := HWB.out.c3
      have c4 := HWB.out.c4
      have c5 := HWB.out.c5
      have c6 := HWB.out.c6
      have c7 := HWB.out.c7
      have c8 := HWB.out.c8
      have c9 := HWB.out.c9
      obtain ⟨t, ht⟩ : ∃ t, Hid (e.on xs = t) := ⟨_, Lib.hid rfl⟩
      have HST := Lib.hid (offE_step xs E k e HE.out)
      cases t
      · go_upto_region 9 with (first
          | (go_at_call 52; (with_reducible refine (cforget1_is nb gn c' xs hx e HL.out false ht _ HFB.out HIB.out).mono ?_); rintro e' w2 ⟨rfl, hb⟩; have HG2 := Lib.hid (grown_chain HGB.out (grown_of_below hb)); have HW2 := Lib.hid (HWB.out.below hb); have HR2 := Lib.hid (own_far HRB.out hb); clear hb c0 c1 c2 c3 c4 c5 c6 c7 c8 c9))
        have c0 := HW2.out.c0
        have c1 := HW2.out.c1
        have c2 := HW2.out.c2
        have c3 := HW2.out.c3
        have c4 := HW2.out.c4
        have c5 := HW2.out.c5
        have c6 := HW2.out.c6
        have c7 := HW2.out.c7
        have c8 := HW2.out.c8
        have c9 := HW2.out.c9
        have HTh : Hid (World.there w2 g (i * 10) ((#[Value.int .i64 e.k0, .int .i64 e.k1, .int .i64 e.k2, .int .i64 e.k3, .int .u32 e.k4, .int .u32 e.sh, .int .i64 e.pg, .int .i64 e.at_, .bool e.ro, .slice e.na e.ids.length e.nc])).size) := Lib.hid (fun q hq => own_there HR2.out (i * 10 + q) (by have hq' : q < 10 := hq; have := HC.out; omega))
        have hst := own_setCells e.cs (i * 10) _ _ HR2.out
        have HEM : Hid (offE xs (E.take (k + 1)) = offE xs (E.take k) ++ [e]) := Lib.hid (by rw [HST.out, if_neg (by rw [ht.out]; decide)])
        have HYl : Hid (i * 10 + e.cs.length ≤ ys.length) := Lib.hid (by rw [HR2.out.1, e.cs_len]; omega)
        go_upto_region 10 with (refine wpList_store_mid (by rfl) _ _ _ (by rfl) g (i * 10) (#[Value.int .i64 e.k0, .int .i64 e.k1, .int .i64 e.k2, .int .i64 e.k3, .int .u32 e.k4, .int .u32 e.sh, .int .i64 e.pg, .int .i64 e.at_, .bool e.ro, .slice e.na e.ids.length e.nc]) (by rfl) (by rfl) HTh.out (infoWA e) (wa_one e) ?_; obtain ⟨w3, hw3⟩ : ∃ w3, w3 = w2.setCells g (i * 10) ((#[Value.int .i64 e.k0, .int .i64 e.k1, .int .i64 e.k2, .int .i64 e.k3, .int .u32 e.k4, .int .u32 e.sh, .int .i64 e.pg, .int .i64 e.at_, .bool e.ro, .slice e.na e.ids.length e.nc])).toList := ⟨_, rfl⟩; rw [← hw3]; rw [wa_list] at hw3; rw [← hw3] at hst; have H3 := Lib.hid hst.1; have HG3 := Lib.hid (grown_chain HG2.out hst.2); clear hst hw3)
        go_wp2_with fail
        go_roundw
        case rel =>
          refine ⟨i + 1, k + 1, over ys (i * 10) e.cs, by go_num, by go_num, ?_, by omega, by omega, H3.out, ?_, ?_, HG3.out⟩
          · rw [HEM.out, List.length_append, HI.out]; rfl
          · have h1 := over_in ys e.cs (i * 10) HYl.out
            rw [e.cs_len, HTK.out, show i * 10 + 10 = (i + 1) * 10 by omega] at h1
            rw [h1, HEM.out, ewCells_snoc]
          · rw [over_drop ys e.cs (i * 10) ((k + 1) * 10) (by rw [e.cs_len]; omega) HYl.out, show (k + 1) * 10 = k * 10 + 10 by omega, ← List.drop_drop, HDR.out, ewCells_tail, List.tail_drop]
        case measure => simp [intOf]; omega
      · have HEM : Hid (offE xs (E.take (k + 1)) = offE xs (E.take k)) := Lib.hid (by rw [HST.out, if_pos ht.out, List.append_nil])
        go_wp2_with (first
          | (go_at_call 52; (with_reducible refine (cforget1_is nb gn c' xs hx e HL.out true ht _ HFB.out HIB.out).mono ?_); rintro e' w2 ⟨rfl, hb⟩; have HG2 := Lib.hid (grown_chain HGB.out (grown_of_below hb)); have HR2 := Lib.hid (own_far HRB.out hb); clear hb c0 c1 c2 c3 c4 c5 c6 c7 c8 c9))
        go_roundw
        case rel =>
          refine ⟨i, k + 1, ys, rfl, by go_num, by rw [HEM.out]; exact HI.out, by omega, by omega, HR2.out, by rw [HEM.out]; exact HTK.out, ?_, HG2.out⟩
          rw [show (k + 1) * 10 = k * 10 + 10 by omega, ← List.drop_drop, HDR.out, ewCells_tail, List.tail_drop]
        case measure => simp [intOf]; omega
    · obtain rfl : k = n := by omega
      have HTE : Hid (E.take k = E) := Lib.hid (by rw [← hn.out, List.take_length])
      have hel : Tryd.prog.elem 103 = 110 := by kernel_rfl
      have ht : Tryd.prog.underlying 103 = some (.slice (Tryd.prog.elem 103)) := by rw [hel]; exact Tryd.underlying103
      have hsz : ∀ W, (sizeOf 110).run Tryd.prog W = .ok 10 W := fun W => by kernel_rfl
      have hsl : ∀ W, (Instr.sliceAt 103 (.slice (some ⟨g, 0, none⟩) k c) (some (.int .i64 i)) none none).run Tryd.prog W = .ok (.slice (some ⟨g, i * 10, none⟩) (k - i) (c - i)) W := fun W => by
        rw [run_sliceAt_slice W _ _ _ _ _ ht, run_slice_l W _ _ _ _ ht .i64 i (by omega) (by omega), hel, hsz, Result.andThen]
        unfold sliced
        rw [if_neg (by have := HC.out; omega), show ((i : Int).toNat) = i by omega]
        simp [Addr.add]
        exact fun h => h.symm
      have hs0 : ∀ W, (Instr.sliceAt 103 (.slice (some ⟨g, 0, none⟩) k c) none (some (.int .i64 i)) none).run Tryd.prog W = .ok (.slice (some ⟨g, 0, none⟩) i c) W := fun W => by
        rw [run_sliceAt_slice W _ _ _ _ _ ht, run_slice_h W _ _ _ _ ht .i64 i (by omega) (by have := HC.out; omega), hel, hsz, Result.andThen]
        unfold sliced
        rw [show ((i : Int).toNat) = i by omega]
        simp [Addr.add]
      have hth : ∀ q, q < (zsW (k - i)).length → (World.cell? wr ⟨g, i * 10 + q, none⟩).isSome = true ∧ World.frozen? wr ⟨g, i * 10 + q, none⟩ = false := fun q hq => own_there HR.out (i * 10 + q) (by rw [zsW_len] at hq; have := HC.out; omega)
      have hrc := fun ty => run_clear_wide (P := Tryd.prog) wr 103 110 ty (.agg #[Value.int .i64 0, .int .i64 0, .int .i64 0, .int .i64 0, .int .u32 0, .int .u32 0, .int .i64 0, .int .i64 0, .bool false, .slice none 0 0]) Tryd.underlying103 zeroWayR g (i * 10) (k - i) (c - i) (by omega) (zsW (k - i)) rfl (fun q hq => (hth q hq).1) (fun q hq => (hth q hq).2) (zsW_one _)
      have hst := own_setCells (zsW (k - i)) (i * 10) _ _ HR.out
      obtain ⟨w3, hw3⟩ : ∃ w3, w3 = wr.setCells g (i * 10) (zsW (k - i)) := ⟨_, rfl⟩
      rw [← hw3] at hst
      have H3 := Lib.hid hst.1
      have HG3 := Lib.hid (grown_chain HG.out hst.2)
      have hcl : ∀ ty, (Builtin.clear_ #[103] ty #[.slice (some ⟨g, i * 10, none⟩) (k - i) (c - i)]).run Tryd.prog wr = .ok (.tuple #[]) w3 := fun ty => by rw [hw3]; exact hrc ty
      clear hst hw3 hrc hth hel ht hsz
      have hkk : ¬ (k : Int) < k := by omega
      go_wp2_with fail
      go_ret
      have h4 := own_take H3.out i (by omega)
      rw [over_take _ _ _ _ (Nat.le_refl _) (by rw [zsW_len, HR.out.1]; omega), HTK.out, HTE.out] at h4
      rw [HTE.out] at HI
      exact ⟨i, rfl, HI.out, h4, HG3.out⟩
end Go.Proofs.YtedidopkemjgeaaDoor
namespace Go.Proofs.YtedidopkemjgeaaDoor
open Go.ChangeShapes Go.WideShapes Go.ChangeAt Go.RowKit
set_option linter.unusedVariables false
set_option linter.unusedSimpArgs false
theorem mem_off {xs : List Int} {E : List EW} {e : EW} (h : e ∈ offE xs E) : e ∈ E ∧ e.on xs = false := by
  unfold offE at h
  obtain ⟨h1, h2⟩ := List.mem_filter.1 h
  exact ⟨h1, by simpa using h2⟩
theorem off_len (xs : List Int) (E : List EW) : (offE xs E).length ≤ E.length := List.length_filter_le _ _
/-- Some ways went. -/
theorem cache_off {w w2 : World} {N cb m : Nat} {size hits : Int} {g n c : Nat} {E : List EW} (xs : List Int) (h : CacheAt w N cb size hits (.slice (some ⟨g, 0, none⟩) n c) E) (hl : (offE xs E).length = m) (hown : w2.ownsRow N 110 10 (.slice (some ⟨g, 0, none⟩) m c) m (ewCells (offE xs E))) (hg : w.grownBy w2 (some g)) :
    CacheAt (w2.setCell ⟨cb, 2, none⟩ (.slice (some ⟨g, 0, none⟩) m c)) N cb size hits (.slice (some ⟨g, 0, none⟩) m c) (offE xs E) ∧ Below N w (w2.setCell ⟨cb, 2, none⟩ (.slice (some ⟨g, 0, none⟩) m c)) ∧ KeepB w (w2.setCell ⟨cb, 2, none⟩ (.slice (some ⟨g, 0, none⟩) m c)) cb (.slice (some ⟨g, 0, none⟩) n c) := by
  have hgc : g ≠ cb := fun e => h.ne (by rw [e]; rfl)
  have hcb : w2.heap[cb]? = w.heap[cb]? := hg.block cb h.cl (fun e => hgc (by injection e with e; exact e.symm))
  have hgl := h.row.lt g rfl
  have keep : ∀ k, k < w.heap.size → k ≠ cb → (Value.slice (some ⟨g, 0, none⟩) n c).ownBlock ≠ some k → (w2.setCell ⟨cb, 2, none⟩ (.slice (some ⟨g, 0, none⟩) m c)).heap[k]? = w.heap[k]? := fun k hk hkc hkv => by
    rw [Below.heap_setCell _ _ _ _ (show k ≠ cb from hkc)]
    exact hg.block k hk (fun e => hkv e.symm)
  have hb : Below N w w2 := (Below.refl w.heap.size w).mono (Nat.le_of_lt (Nat.lt_of_le_of_lt h.nb h.cl)) |>.grown hg (Nat.le_of_lt (Nat.lt_of_le_of_lt h.nb h.cl)) (fun x hx => by injection hx with hx; rw [← hx]; exact hgl.1)
  refine ⟨⟨h.nb, ?_, ?_, ?_, ?_, ?_, ?_, fun e => hgc (by injection e), ?_⟩, hb.setCell h.nb _, ⟨by simpa using hg.size, keep⟩⟩
  · have := hg.size; have := h.cl; simp; omega
  · rw [World.cell?_setCell_other _ _ _ _ (by simp)]; exact (World.cell?_of_block (a := ⟨cb, 0, none⟩) hcb).trans h.c0
  · rw [World.cell?_setCell_other _ _ _ _ (by simp)]; exact (World.cell?_of_block (a := ⟨cb, 1, none⟩) hcb).trans h.c1
  · exact World.cell?_setCell_same _ _ _ ((World.cell?_of_block (a := ⟨cb, 2, none⟩) hcb).trans h.c2)
  · intro j; rw [World.frozen?_setCell]; exact (World.frozen?_of_block (a := ⟨cb, j, none⟩) hcb).trans (h.fr j)
  · rw [hl]
    exact row_same' hown (fun x hx => Below.heap_setCell _ _ _ _ (show x ≠ cb from fun e => hgc (by injection hx with hx; rw [← e, ← hx])))
  · intro e he i hi
    obtain ⟨g', o, a1, a2, a3, a4, a5, a6⟩ := h.nd e (mem_off he).1 i hi
    exact ⟨g', o, a1, a2, by have := hg.size; simp; omega, a4, a5, (World.cell?_of_block (a := ⟨g', o + i, none⟩) (keep g' a3 a4 a5)).trans a6⟩
set_option maxRecDepth 100000 in
set_option maxHeartbeats 4000000 in
theorem cforget_is {N cb : Nat} {size hits : Int} {v : Value} {E : List EW} (gn c' : Nat) (xs : List Int) (m : Nat) (hmx : Hid (xs.length = m)) (hx : m ≤ 1000) (hm : E.length ≤ 64) (hids : Hid (∀ e, e ∈ E → e.ids.length ≤ 1000)) (w : World) (h : CacheAt w N cb size hits v E) (hN : N ≤ w.heap.size) (hgl : gn < w.heap.size) (hgv : v.ownBlock ≠ some gn) (hr : Hid (RN w gn m xs)) :
    Calls Tryd.prog 20 #[.pointer (some ⟨cb, 0, none⟩), .slice (some ⟨gn, 0, none⟩) m c'] w fun e w' => e = .returned (.tuple #[]) ∧ ∃ v', CacheAt w' N cb size hits v' (offE xs E) ∧ Below N w w' ∧ KeepB w w' cb v ∧ v'.ownBlock = v.ownBlock := by
  obtain ⟨va, vc, hv⟩ := h.shape
  obtain ⟨n, hn⟩ : ∃ n, Hid (E.length = n) := ⟨_, Lib.hid rfl⟩
  rw [hn.out] at hv hm
  subst hv
  have hx' : xs.length ≤ 1000 := by rw [hmx.out]; exact hx
  have HF1 : Hid (FgAt (w.alloc (.cells #[.slice (some ⟨gn, 0, none⟩) m c'] 22 (0, 0))) w.heap.size gn c' xs) := Lib.hid ⟨by simp, by simp; omega, by rw [hmx.out]; simp, by rw [hmx.out]; exact fun i hi => (((Below.refl _ _).alloc (Nat.le_refl _) _ : Below w.heap.size w (w.alloc (.cells #[.slice (some ⟨gn, 0, none⟩) m c'] 22 (0, 0)))).cell (p := ⟨gn, i, none⟩) hgl).trans (hr.out i hi)⟩
  have H1 := Lib.hid (h.below ((Below.refl _ _).alloc (Nat.le_refl _) _ : Below w.heap.size w (w.alloc (.cells #[.slice (some ⟨gn, 0, none⟩) m c'] 22 (0, 0)))))
  have HN := Lib.hid hN
  have HCl := Lib.hid h.cl
  have HOw : Hid (∀ g, (Value.slice va n vc).ownBlock = some g → g < w.heap.size) := Lib.hid (fun g e => (h.row.lt g e).2)
  have q2 := H1.out.c2
  rcases firstE (fun e => e.on xs) E with hno | ⟨j, d, hj, hyes, hno⟩
  · have HNO : Hid (∀ e, e ∈ E → e.on xs = false) := Lib.hid hno
    clear h hgl hN hr hno
    go_enter Tryd.func20, Tryd.ntmps20
    go_wp2_with (first
      | (go_at_call 51; (with_reducible refine (cdelfun_no w.heap.size gn c' xs hx' hn hm hids HNO _ H1.out HF1.out).mono ?_); rintro e w2 ⟨rfl, hb⟩; have H2 := Lib.hid (H1.out.below hb); have HB2 := Lib.hid (((Below.refl _ _).alloc (Nat.le_refl _) _ : Below w.heap.size w _).trans (hb.mono (by simp))); have q2' := H2.out.c2; have qf := H2.out.fr 2; clear hb))
    go_end0
    refine ⟨rfl, .slice va n vc, ?_, (HB2.out.mono HN.out).setCell H2.out.nb _, ⟨by simpa using HB2.out.size, fun k hk hkc hkv => ?_⟩, rfl⟩
    · rw [offE_all HNO.out]
      have h2 := H2.out
      refine ⟨h2.nb, by simpa using h2.cl, ?_, ?_, World.cell?_setCell_same _ _ _ h2.c2, fun j => by simpa using h2.fr j, row_same' h2.row (fun g hg => Below.heap_setCell _ _ _ _ (show g ≠ cb from fun e => h2.ne (by rw [hg, e]))), h2.ne, fun d hd i hi => ?_⟩
      · rw [World.cell?_setCell_other _ _ _ _ (by simp)]; exact h2.c0
      · rw [World.cell?_setCell_other _ _ _ _ (by simp)]; exact h2.c1
      · obtain ⟨g, o, a1, a2, a3, a4, a5, a6⟩ := h2.nd d hd i hi
        exact ⟨g, o, a1, a2, by simpa using a3, a4, a5, (World.cell?_of_block (a := ⟨g, o + i, none⟩) (Below.heap_setCell _ _ _ _ (show g ≠ cb from a4))).trans a6⟩
    · rw [set_heap _ _ _ _ _ hkc]
      exact HB2.out.block k hk
  · have hjn : 0 < E.length := by
      rcases Nat.lt_or_ge j E.length with h' | h'
      · omega
      · rw [List.getElem?_eq_none h'] at hj; cases hj
    obtain ⟨g, cc, hgv'⟩ := h.row1 hjn
    simp only [Value.slice.injEq] at hgv'
    obtain ⟨rfl, -, -⟩ := hgv'
    have HSo : Hid (∃ (j : Nat) (d : EW), E[j]? = some d ∧ d.on xs = true ∧ ∀ (i : Nat) (e : EW), i < j → E[i]? = some e → e.on xs = false) := Lib.hid ⟨j, d, hj, hyes, hno⟩
    have HNe : Hid (w.heap.size ≠ g ∧ gn ≠ g) := Lib.hid ⟨by have := HOw.out g rfl; omega, fun e => hgv (by rw [e]; rfl)⟩
    clear h hgl hN hr hj hyes hno hjn hgv
    go_enter Tryd.func20, Tryd.ntmps20
    go_wp2_with (first
      | (go_at_call 51; (with_reducible refine (cdelfun_is w.heap.size gn c' xs hx' hn hm hids HSo _ H1.out HF1.out HNe).mono ?_); rintro e w2 ⟨m2, rfl, hl, hown, hg⟩; have HC2 := Lib.hid (cache_off xs H1.out hl hown hg); have hcb := (hg.block cb H1.out.cl (fun e => H1.out.ne e.symm)); have q2' := (World.cell?_of_block (a := ⟨cb, 2, none⟩) hcb).trans H1.out.c2; have qf := (World.frozen?_of_block (a := ⟨cb, 2, none⟩) hcb).trans (H1.out.fr 2); clear hl hown hg hcb))
    go_end0
    have hb1 : Below w.heap.size w (w.alloc (.cells #[.slice (some ⟨gn, 0, none⟩) m c'] 22 (0, 0))) := (Below.refl _ _).alloc (Nat.le_refl _) _
    exact ⟨rfl, _, HC2.out.1, (hb1.mono HN.out).trans HC2.out.2.1, (KeepB.of_below hb1).trans HC2.out.2.2 rfl, rfl⟩
end Go.Proofs.YtedidopkemjgeaaDoor
