/-
  package page: what is not there; Make of too many, without room; Clone; turnkeyref.SameWords.
-/
import Derived.Test.YtjkbfhojjjkgnaaDoorPgA
import Derived.Test.YtjkbfhojjjkgnaaDoorArP
import Derived.Test.YtjkbfhojjjkgnaaDoorSen
namespace Go.Proofs.YtjkbfhojjjkgnaaDoor
open Go.ChangeShapes Go.WideShapes Go.ChangeAt Go.RowKit
set_option linter.unusedVariables false
theorem phas_no {base P p B G n c : Nat} {th : Nat → Bool} {vr : Nat → Int} {W : Nat → Nat → Int} (id at_ : Int) (ht : Hid ((thereB n th id && decide (0 ≤ at_ ∧ at_ < 32)) = false)) (w : World) (h : PgAt w base P p B G n c th vr W) :
    Calls Tryd.prog 45 #[.pointer (some ⟨P, 0, none⟩), .int .i64 id, .int .i64 at_] w fun e w' => e = .returned (.bool false) ∧ w = w' := by
  have H := Lib.hid h
  have f0 := h.f0
  clear h
  by_cases h1 : thereB n th id = true
  · have H1 := Lib.hid h1
    have h2 : ¬ (0 ≤ at_ ∧ at_ < 32) := by
      have := ht.out
      rw [h1] at this
      simpa using this
    by_cases h3 : 0 ≤ at_
    · have d0 : decide (0 ≤ at_) = true := decide_eq_true h3
      have d1 : decide (at_ < 32) = false := decide_eq_false (by omega)
      clear h1 h2 h3
      go_enter Tryd.func45, Tryd.ntmps45
      go_wp2_with (first | (go_at_call 52; (with_reducible refine (athere_is id true H1 _ H.out.ar).mono ?_); rintro e w1 ⟨rfl, rfl⟩))
      go_ret
      exact ⟨rfl, rfl⟩
    · have d0 : decide (0 ≤ at_) = false := decide_eq_false h3
      clear h1 h2 h3
      go_enter Tryd.func45, Tryd.ntmps45
      go_wp2_with (first | (go_at_call 52; (with_reducible refine (athere_is id true H1 _ H.out.ar).mono ?_); rintro e w1 ⟨rfl, rfl⟩))
      go_ret
      exact ⟨rfl, rfl⟩
  · have H1 : Hid (thereB n th id = false) := Lib.hid (by simpa using h1)
    clear h1
    go_enter Tryd.func45, Tryd.ntmps45
    go_wp2_with (first | (go_at_call 52; (with_reducible refine (athere_is id false H1 _ H.out.ar).mono ?_); rintro e w1 ⟨rfl, rfl⟩))
    go_ret
    exact ⟨rfl, rfl⟩
theorem pread_no {base P p B G n c : Nat} {th : Nat → Bool} {vr : Nat → Int} {W : Nat → Nat → Int} (id at_ : Int) (ht : Hid ((thereB n th id && decide (0 ≤ at_ ∧ at_ < 32)) = false)) (w : World) (h : PgAt w base P p B G n c th vr W) :
    Calls Tryd.prog 23 #[.pointer (some ⟨P, 0, none⟩), .int .i64 id, .int .i64 at_] w fun e w' => e = .returned (.tuple #[.int .u32 0, .bool false]) ∧ w = w' := by
  have H := Lib.hid h
  clear h
  go_enter Tryd.func23, Tryd.ntmps23
  go_wp2_with (first | (go_at_call 45; (with_reducible refine (phas_no id at_ ht _ H.out).mono ?_); rintro e w1 ⟨rfl, rfl⟩))
  go_ret2
  exact ⟨rfl, rfl⟩
theorem pwrite_no {base P p B G n c : Nat} {th : Nat → Bool} {vr : Nat → Int} {W : Nat → Nat → Int} (id at_ x : Int) (ht : Hid ((thereB n th id && decide (0 ≤ at_ ∧ at_ < 32)) = false)) (w : World) (h : PgAt w base P p B G n c th vr W) :
    Calls Tryd.prog 97 #[.pointer (some ⟨P, 0, none⟩), .int .i64 id, .int .i64 at_, .int .u32 x] w fun e w' => e = .returned (.bool false) ∧ w = w' := by
  have H := Lib.hid h
  clear h
  go_enter Tryd.func97, Tryd.ntmps97
  go_wp2_with (first | (go_at_call 45; (with_reducible refine (phas_no id at_ ht _ H.out).mono ?_); rintro e w1 ⟨rfl, rfl⟩))
  go_ret
  exact ⟨rfl, rfl⟩
set_option maxRecDepth 100000 in
theorem pmake_many {P : Nat} (a : Option Addr) (m c2 : Nat) (hm : 32 < m) (v : Addr) (tp : TypeId) (w : World) (hE : w.cell? ⟨0, 0, none⟩ = some (.iface tp (.pointer (some v)))) :
    Calls Tryd.prog 32 #[.pointer (some ⟨P, 0, none⟩), .slice a m c2] w fun e w' => e = .returned (.tuple #[.int .i64 0, .int .i64 0, .iface tp (.pointer (some v))]) ∧ Below w.heap.size w w' := by
  have d0 : decide ((32 : Int) < (m : Int)) = true := by simp; omega
  go_enter Tryd.func32, Tryd.ntmps32
  go_wp2_with fail
  go_quiet (fail)
  go_wp2_with fail
  go_ret3
  exact ⟨rfl, below_drewN (Below.refl _ _) _⟩
set_option maxRecDepth 100000 in
theorem pmake_fullg {base P p B G n c : Nat} {th : Nat → Bool} {vr : Nat → Int} {W : Nat → Nat → Int} (a : Option Addr) (m c2 : Nat) (hm : m ≤ 32) (w : World) (h : PgAt w base P p B G n c th vr W) (hno : Hid (∀ i, i < n → freeB th vr i = false)) (v : Addr) (tp : TypeId) (hE : w.cell? ⟨4, 0, none⟩ = some (.iface tp (.pointer (some v)))) (hl : 4 < w.heap.size) :
    Calls Tryd.prog 32 #[.pointer (some ⟨P, 0, none⟩), .slice a m c2] w fun e w' => e = .returned (.tuple #[.int .i64 0, .int .i64 0, .iface tp (.pointer (some v))]) ∧ Below w.heap.size w w' := by
  have H := Lib.hid h
  have HE := Lib.hid hE
  have f0 := h.f0
  have d0 : decide ((32 : Int) < (m : Int)) = false := by simp; omega
  clear h hE
  go_enter Tryd.func32, Tryd.ntmps32
  go_wp2_with (first
    | (go_at_call 50; (with_reducible refine (atake_full _ H.out.ar hno _ HE.out hl).mono ?_); rintro e w1 ⟨rfl, hb⟩; have HB := Lib.hid hb; clear hb))
  go_ret3
  exact ⟨rfl, HB.out⟩
/-- A copy of pages: as pages, but its row may have room to spare. -/
structure PcAt (w : World) (base P p B G n c q : Nat) (th : Nat → Bool) (vr : Nat → Int) (W : Nat → Nat → Int) : Prop where
  pl : P < w.heap.size
  pb : base ≤ P
  f0 : w.cell? ⟨P, 0, none⟩ = some (.pointer (some ⟨p, 0, none⟩))
  f1 : w.cell? ⟨P, 1, none⟩ = some (.slice (some ⟨G, 0, none⟩) n q)
  ar : ArAt w base p B n c th vr
  row : w.ownsRow base 114 32 (.slice (some ⟨G, 0, none⟩) n q) n (flat W n)
theorem flat_one (W : Nat → Nat → Int) (n : Nat) : ∀ u ∈ flat W n, u.oneCell' = true := by
  intro u hu
  obtain ⟨x, _, rfl⟩ := List.mem_map.1 hu
  rfl
theorem base_up {w : World} {B B' e s n : Nat} {v : Value} {xs : List Value} (h : w.ownsRow B e s v n xs) (hb : B' ≤ B) : w.ownsRow B' e s v n xs := by
  refine ⟨h.1, ?_⟩
  rcases h.2 with h0 | ⟨g, cap, cur, hv, hB, rest⟩
  · exact .inl h0
  · exact .inr ⟨g, cap, cur, hv, Nat.le_trans hb hB, rest⟩
section
variable {w X Y : World} {base P p B G n c : Nat} {th : Nat → Bool} {vr : Nat → Int} {W : Nat → Nat → Int}
theorem ck0 (h : PgAt w base P p B G n c th vr W) : ((PgAt w.drew base P p B G n c th vr W ∧ Below w.heap.size w w.drew) ∧ World.cell? w.drew ⟨P, 0, none⟩ = some (.pointer (some ⟨p, 0, none⟩)) ∧ World.cell? w.drew ⟨P, 1, none⟩ = some (.slice (some ⟨G, 0, none⟩) n n)) := by
  have hb : Below w.heap.size w w.drew := (Below.refl _ _).drew
  have h2 := h.below hb
  exact ⟨⟨h2, hb⟩, h2.f0, h2.f1⟩
theorem ckeep (h : ((PgAt X base P p B G n c th vr W ∧ Below w.heap.size w X) ∧ World.cell? X ⟨P, 0, none⟩ = some (.pointer (some ⟨p, 0, none⟩)) ∧ World.cell? X ⟨P, 1, none⟩ = some (.slice (some ⟨G, 0, none⟩) n n))) (hb : Below X.heap.size X Y) : ((PgAt Y base P p B G n c th vr W ∧ Below w.heap.size w Y) ∧ World.cell? Y ⟨P, 0, none⟩ = some (.pointer (some ⟨p, 0, none⟩)) ∧ World.cell? Y ⟨P, 1, none⟩ = some (.slice (some ⟨G, 0, none⟩) n n)) := by
  have h2 := h.1.1.below hb
  exact ⟨⟨h2, h.1.2.trans (hb.mono h.1.2.size)⟩, h2.f0, h2.f1⟩
theorem ck_ar (h : ((PgAt X base P p B G n c th vr W ∧ Below w.heap.size w X) ∧ World.cell? X ⟨P, 0, none⟩ = some (.pointer (some ⟨p, 0, none⟩)) ∧ World.cell? X ⟨P, 1, none⟩ = some (.slice (some ⟨G, 0, none⟩) n n))) : ArAt X base p B n c th vr := h.1.1.ar
theorem ck_row (h : ((PgAt X base P p B G n c th vr W ∧ Below w.heap.size w X) ∧ World.cell? X ⟨P, 0, none⟩ = some (.pointer (some ⟨p, 0, none⟩)) ∧ World.cell? X ⟨P, 1, none⟩ = some (.slice (some ⟨G, 0, none⟩) n n))) : X.ownsRow base 114 32 (.slice (some ⟨G, 0, none⟩) n n) n (flat W n) := h.1.1.row
theorem ck_bel (h : ((PgAt X base P p B G n c th vr W ∧ Below w.heap.size w X) ∧ World.cell? X ⟨P, 0, none⟩ = some (.pointer (some ⟨p, 0, none⟩)) ∧ World.cell? X ⟨P, 1, none⟩ = some (.slice (some ⟨G, 0, none⟩) n n))) : Below w.heap.size w X := h.1.2
end
theorem own_ru {w : World} {B n c : Nat} {a : Option Addr} {xs : List Int} (h : w.ownsRow B 22 1 (.slice a n c) n (xs.map (Value.int .u32))) (hn : xs.length = n) : RU w a xs := by
  intro i hi
  rcases h.2 with ⟨_, h0⟩ | ⟨g, cap, cur, hv, hB, hg, rest⟩
  · omega
  · obtain rfl : a = some ⟨g, 0, none⟩ := by simp at hv; exact hv.1
    refine ⟨_, rfl, (h.lt g rfl).2, ?_⟩
    have := h.cellAt i (by omega)
    rw [show (Addr.add ⟨g, 0, none⟩ i) = ⟨g, i, none⟩ by (unfold Addr.add; split <;> simp_all), this]
    simp [List.getD, hi]
set_option maxRecDepth 100000 in
theorem samewords_yes (a b : Option Addr) (ca cb n : Nat) (xs : List Int) (hn : Hid (xs.length = n)) (hm : n ≤ 1000000) (w : World) (hx : RU w a xs) (hy : RU w b xs) :
    Calls Tryd.prog 26 #[.slice a n ca, .slice b n cb] w fun e w' => e = .returned (.bool true) ∧ Below w.heap.size w w' := by
  have HX := Lib.hid hx
  have HY := Lib.hid hy
  clear hx hy
  go_enter Tryd.func26, Tryd.ntmps26
  go_wp2_with fail
  go_loopw [5] (fun i wr => ∃ k : Nat, k ≤ n ∧ i = .int .i64 k ∧ Below w.heap.size w wr) (fun i _ => n - (intOf i).toNat)
  case atStart => exact ⟨0, by omega, rfl, Below.refl _ _⟩
  case round =>
    obtain ⟨k, hk, rfl, hb⟩ := hrel
    have HB := Lib.hid hb
    by_cases hlt : k < n
    · obtain ⟨ad, rfl, h1, c1⟩ := (HX.out.below hb) k (by rw [hn.out]; exact hlt)
      obtain ⟨bd, rfl, h2, c2⟩ := (HY.out.below hb) k (by rw [hn.out]; exact hlt)
      generalize xs.getD k 0 = x at c1 c2
      have k0 : (0 : Int) ≤ (k : Int) := by omega
      have k1 : (k : Int) < (n : Int) := by omega
      clear hb h1 h2
      go_wp2_with fail
      go_quiet (fail)
      go_wp2
      go_roundw
      case rel => exact ⟨k + 1, by omega, by go_num, below_drewN HB.out _⟩
      case measure => simp [intOf]; omega
    · obtain rfl : n = k := by omega
      have hdd : decide (n < n) = false := by simp
      clear hb
      go_wp2_with fail
      go_ret
      exact ⟨rfl, HB.out⟩
end Go.Proofs.YtjkbfhojjjkgnaaDoor
