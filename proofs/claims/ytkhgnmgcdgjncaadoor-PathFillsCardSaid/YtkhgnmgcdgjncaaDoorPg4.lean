/-
  package page: what is not there; Make of too many, without room; Clone; turnkeyref.SameWords.
-/
import Derived.Test.YtkhgnmgcdgjncaaDoorPgA
import Derived.Test.YtkhgnmgcdgjncaaDoorArP
import Derived.Test.YtkhgnmgcdgjncaaDoorSen
namespace Go.Proofs.YtkhgnmgcdgjncaaDoor
open Go.ChangeShapes Go.WideShapes Go.ChangeAt Go.RowKit
set_option linter.unusedVariables false
theorem pwords_no {base P p B G n c : Nat} {th : Nat → Bool} {vr : Nat → Int} {W : Nat → Nat → Int} (id : Int) (ht : Hid (thereB n th id = false)) (w : World) (h : PgAt w base P p B G n c th vr W) :
    Calls Tryd.prog 71 #[.pointer (some ⟨P, 0, none⟩), .int .i64 id] w fun e w' => e = .returned (.slice none 0 0) ∧ w = w' := by
  have H := Lib.hid h
  have f0 := h.f0
  clear h
  go_enter Tryd.func71, Tryd.ntmps71
  go_wp2_with (first | (go_at_call 66; (with_reducible refine (athere_is id false ht _ H.out.ar).mono ?_); rintro e w1 ⟨rfl, rfl⟩))
  go_ret
  exact ⟨rfl, rfl⟩
theorem phas_no {base P p B G n c : Nat} {th : Nat → Bool} {vr : Nat → Int} {W : Nat → Nat → Int} (id at_ : Int) (ht : Hid ((thereB n th id && decide (0 ≤ at_ ∧ at_ < 32)) = false)) (w : World) (h : PgAt w base P p B G n c th vr W) :
    Calls Tryd.prog 76 #[.pointer (some ⟨P, 0, none⟩), .int .i64 id, .int .i64 at_] w fun e w' => e = .returned (.bool false) ∧ w = w' := by
  have H := Lib.hid h
  have f0 := h.f0
  clear h
  by_cases h1 : thereB n th id = true
  · have H1 := Lib.hid h1
    have h2 : ¬ (0 ≤ at_ ∧ at_ < 32) := by
      have := ht.out
      rw [h1] at this
      simpa using this
    by_cases h3 : 0 ≤ at_
    · have d0 : decide (0 ≤ at_) = true := decide_eq_true h3
      have d1 : decide (at_ < 32) = false := decide_eq_false (by omega)
      clear h1 h2 h3
      go_enter Tryd.func76, Tryd.ntmps76
      go_wp2_with (first | (go_at_call 66; (with_reducible refine (athere_is id true H1 _ H.out.ar).mono ?_); rintro e w1 ⟨rfl, rfl⟩))
      go_ret
      exact ⟨rfl, rfl⟩
    · have d0 : decide (0 ≤ at_) = false := decide_eq_false h3
      clear h1 h2 h3
      go_enter Tryd.func76, Tryd.ntmps76
      go_wp2_with (first | (go_at_call 66; (with_reducible refine (athere_is id true H1 _ H.out.ar).mono ?_); rintro e w1 ⟨rfl, rfl⟩))
      go_ret
      exact ⟨rfl, rfl⟩
  · have H1 : Hid (thereB n th id = false) := Lib.hid (by simpa using h1)
    clear h1
    go_enter Tryd.func76, Tryd.ntmps76
    go_wp2_with (first | (go_at_call 66; (with_reducible refine (athere_is id false H1 _ H.out.ar).mono ?_); rintro e w1 ⟨rfl, rfl⟩))
    go_ret
    exact ⟨rfl, rfl⟩
theorem pread_no {base P p B G n c : Nat} {th : Nat → Bool} {vr : Nat → Int} {W : Nat → Nat → Int} (id at_ : Int) (ht : Hid ((thereB n th id && decide (0 ≤ at_ ∧ at_ < 32)) = false)) (w : World) (h : PgAt w base P p B G n c th vr W) :
    Calls Tryd.prog 41 #[.pointer (some ⟨P, 0, none⟩), .int .i64 id, .int .i64 at_] w fun e w' => e = .returned (.tuple #[.int .u32 0, .bool false]) ∧ w = w' := by
  have H := Lib.hid h
  clear h
  go_enter Tryd.func41, Tryd.ntmps41
  go_wp2_with (first | (go_at_call 76; (with_reducible refine (phas_no id at_ ht _ H.out).mono ?_); rintro e w1 ⟨rfl, rfl⟩))
  go_ret2
  exact ⟨rfl, rfl⟩
theorem pwrite_no {base P p B G n c : Nat} {th : Nat → Bool} {vr : Nat → Int} {W : Nat → Nat → Int} (id at_ x : Int) (ht : Hid ((thereB n th id && decide (0 ≤ at_ ∧ at_ < 32)) = false)) (w : World) (h : PgAt w base P p B G n c th vr W) :
    Calls Tryd.prog 65 #[.pointer (some ⟨P, 0, none⟩), .int .i64 id, .int .i64 at_, .int .u32 x] w fun e w' => e = .returned (.bool false) ∧ w = w' := by
  have H := Lib.hid h
  clear h
  go_enter Tryd.func65, Tryd.ntmps65
  go_wp2_with (first | (go_at_call 76; (with_reducible refine (phas_no id at_ ht _ H.out).mono ?_); rintro e w1 ⟨rfl, rfl⟩))
  go_ret
  exact ⟨rfl, rfl⟩
set_option maxRecDepth 100000 in
theorem pmake_many {P : Nat} (a : Option Addr) (m c2 : Nat) (hm : 32 < m) (v : Addr) (tp : TypeId) (w : World) (hE : w.cell? ⟨0, 0, none⟩ = some (.iface tp (.pointer (some v)))) :
    Calls Tryd.prog 20 #[.pointer (some ⟨P, 0, none⟩), .slice a m c2] w fun e w' => e = .returned (.tuple #[.int .i64 0, .int .i64 0, .iface tp (.pointer (some v))]) ∧ Below w.heap.size w w' := by
  have d0 : decide ((32 : Int) < (m : Int)) = true := by simp; omega
  go_enter Tryd.func20, Tryd.ntmps20
  go_wp2_with fail
  go_quiet (fail)
  go_wp2_with fail
  go_ret3
  exact ⟨rfl, below_drewN (Below.refl _ _) _⟩
set_option maxRecDepth 100000 in
theorem pmake_fullg {base P p B G n c : Nat} {th : Nat → Bool} {vr : Nat → Int} {W : Nat → Nat → Int} (a : Option Addr) (m c2 : Nat) (hm : m ≤ 32) (w : World) (h : PgAt w base P p B G n c th vr W) (hno : Hid (∀ i, i < n → freeB th vr i = false)) (v : Addr) (tp : TypeId) (hE : w.cell? ⟨3, 0, none⟩ = some (.iface tp (.pointer (some v)))) (hl : 3 < w.heap.size) :
    Calls Tryd.prog 20 #[.pointer (some ⟨P, 0, none⟩), .slice a m c2] w fun e w' => e = .returned (.tuple #[.int .i64 0, .int .i64 0, .iface tp (.pointer (some v))]) ∧ Below w.heap.size w w' := by
  have H := Lib.hid h
  have HE := Lib.hid hE
  have f0 := h.f0
  have d0 : decide ((32 : Int) < (m : Int)) = false := by simp; omega
  clear h hE
  go_enter Tryd.func20, Tryd.ntmps20
  go_wp2_with (first
    | (go_at_call 56; (with_reducible refine (atake_full _ H.out.ar hno _ HE.out hl).mono ?_); rintro e w1 ⟨rfl, hb⟩; have HB := Lib.hid hb; clear hb))
  go_ret3
  exact ⟨rfl, HB.out⟩
/-- A copy of pages: as pages, but its row may have room to spare. -/
structure PcAt (w : World) (base P p B G n c q : Nat) (th : Nat → Bool) (vr : Nat → Int) (W : Nat → Nat → Int) : Prop where
  pl : P < w.heap.size
  pb : base ≤ P
  f0 : w.cell? ⟨P, 0, none⟩ = some (.pointer (some ⟨p, 0, none⟩))
  f1 : w.cell? ⟨P, 1, none⟩ = some (.slice (some ⟨G, 0, none⟩) n q)
  ar : ArAt w base p B n c th vr
  row : w.ownsRow base 123 32 (.slice (some ⟨G, 0, none⟩) n q) n (flat W n)
theorem flat_one (W : Nat → Nat → Int) (n : Nat) : ∀ u ∈ flat W n, u.oneCell' = true := by
  intro u hu
  obtain ⟨x, _, rfl⟩ := List.mem_map.1 hu
  rfl
set_option maxRecDepth 100000 in
theorem wclone_is (w : World) {base G n q : Nat} {W : Nat → Nat → Int} (hn0 : 1 ≤ n) (hn : n ≤ 256) (h : w.ownsRow base 123 32 (.slice (some ⟨G, 0, none⟩) n q) n (flat W n)) :
    Calls Tryd.prog 86 #[.slice (some ⟨G, 0, none⟩) n q] w fun e w' => ∃ g' c', e = .returned (.slice (some ⟨g', 0, none⟩) n c') ∧ w'.ownsRow w.heap.size 123 32 (.slice (some ⟨g', 0, none⟩) n c') n (flat W n) ∧ Below w.heap.size w w' := by
  obtain ⟨i0, hi, hz0, hz1, hz2⟩ := info_parts infoSheet
  have HI := Lib.hid (⟨hi, hz0, hz1, hz2⟩ : Tryd.prog.info? 123 = some i0 ∧ i0.zero = some (.agg (Array.replicate 32 (.int .u32 0))) ∧ i0.size = 32 ∧ i0.bytes = 128)
  have H := Lib.hid h
  clear hi hz0 hz1 hz2 h
  have hq := fun W : World => Lib.run_eql_slice_nil W 68 123 (some ⟨G, 0, none⟩) n q 0 0 Tryd.underlying68
  go_enter Tryd.func86, Tryd.ntmps86
  have HOwn : Hid ((w.alloc (.cells #[] 123)).ownsRow w.heap.size 123 32 (.slice (some ⟨w.heap.size, 0, none⟩) 0 0) 0 []) := Lib.hid ⟨rfl, .inr ⟨w.heap.size, 0, #[], rfl, Nat.le_refl _, heap_alloc_new _ _, by decide, by decide, by rfl, by rfl⟩⟩
  have H1 := Lib.hid (H.out.alloc (.cells #[] 123))
  go_wp2_with (first | (at_builtin; refine wpList_append_own _ rfl _ _ 68 rfl w.heap.size 123 i0 (.agg (Array.replicate 32 (.int .u32 0))) 32 128 Tryd.underlying68 HI.out.1 HI.out.2.1 HI.out.2.2.1 HI.out.2.2.2 (by kernel_rfl) (by decide) _ _ _ rfl HOwn.out ⟨G, 0, none⟩ n q (flat W n) rfl ?c0 ?c1 ?c2 ?c3 ?c4 ?c5 ?_))
  case c0 => exact flat_len W n
  case c1 => exact H1.out.cells rfl
  case c2 => exact flat_one W n
  case c3 => unfold maxLen; omega
  case c4 => omega
  case c5 => simp
  intro v' w1 hown hgrow hne
  have HO := Lib.hid hown
  have HB : Hid (Below w.heap.size w w1) := Lib.hid (((Below.refl _ _).alloc (Nat.le_refl _) _ : Below w.heap.size w (w.alloc (.cells #[] 123))).grown hgrow (by simp) (fun k hk => by simp [Value.ownBlock] at hk; omega))
  clear hown hgrow hne
  go_wp2_with fail
  go_ret
  rcases HO.out.2 with ⟨hv, h1⟩ | ⟨g', c', cur, rfl, _⟩
  · omega
  · exact ⟨g', c', rfl, by simpa using HO.out, HB.out⟩
theorem base_up {w : World} {B B' e s n : Nat} {v : Value} {xs : List Value} (h : w.ownsRow B e s v n xs) (hb : B' ≤ B) : w.ownsRow B' e s v n xs := by
  refine ⟨h.1, ?_⟩
  rcases h.2 with h0 | ⟨g, cap, cur, hv, hB, rest⟩
  · exact .inl h0
  · exact .inr ⟨g, cap, cur, hv, Nat.le_trans hb hB, rest⟩
section
variable {w X Y : World} {base P p B G n c : Nat} {th : Nat → Bool} {vr : Nat → Int} {W : Nat → Nat → Int}
theorem ck0 (h : PgAt w base P p B G n c th vr W) : ((PgAt w.drew base P p B G n c th vr W ∧ Below w.heap.size w w.drew) ∧ World.cell? w.drew ⟨P, 0, none⟩ = some (.pointer (some ⟨p, 0, none⟩)) ∧ World.cell? w.drew ⟨P, 1, none⟩ = some (.slice (some ⟨G, 0, none⟩) n n)) := by
  have hb : Below w.heap.size w w.drew := (Below.refl _ _).drew
  have h2 := h.below hb
  exact ⟨⟨h2, hb⟩, h2.f0, h2.f1⟩
theorem ckeep (h : ((PgAt X base P p B G n c th vr W ∧ Below w.heap.size w X) ∧ World.cell? X ⟨P, 0, none⟩ = some (.pointer (some ⟨p, 0, none⟩)) ∧ World.cell? X ⟨P, 1, none⟩ = some (.slice (some ⟨G, 0, none⟩) n n))) (hb : Below X.heap.size X Y) : ((PgAt Y base P p B G n c th vr W ∧ Below w.heap.size w Y) ∧ World.cell? Y ⟨P, 0, none⟩ = some (.pointer (some ⟨p, 0, none⟩)) ∧ World.cell? Y ⟨P, 1, none⟩ = some (.slice (some ⟨G, 0, none⟩) n n)) := by
  have h2 := h.1.1.below hb
  exact ⟨⟨h2, h.1.2.trans (hb.mono h.1.2.size)⟩, h2.f0, h2.f1⟩
theorem ck_ar (h : ((PgAt X base P p B G n c th vr W ∧ Below w.heap.size w X) ∧ World.cell? X ⟨P, 0, none⟩ = some (.pointer (some ⟨p, 0, none⟩)) ∧ World.cell? X ⟨P, 1, none⟩ = some (.slice (some ⟨G, 0, none⟩) n n))) : ArAt X base p B n c th vr := h.1.1.ar
theorem ck_row (h : ((PgAt X base P p B G n c th vr W ∧ Below w.heap.size w X) ∧ World.cell? X ⟨P, 0, none⟩ = some (.pointer (some ⟨p, 0, none⟩)) ∧ World.cell? X ⟨P, 1, none⟩ = some (.slice (some ⟨G, 0, none⟩) n n))) : X.ownsRow base 123 32 (.slice (some ⟨G, 0, none⟩) n n) n (flat W n) := h.1.1.row
theorem ck_bel (h : ((PgAt X base P p B G n c th vr W ∧ Below w.heap.size w X) ∧ World.cell? X ⟨P, 0, none⟩ = some (.pointer (some ⟨p, 0, none⟩)) ∧ World.cell? X ⟨P, 1, none⟩ = some (.slice (some ⟨G, 0, none⟩) n n))) : Below w.heap.size w X := h.1.2
end
set_option maxRecDepth 100000 in
theorem pclone_is {base P p B G n c : Nat} {th : Nat → Bool} {vr : Nat → Int} {W : Nat → Nat → Int} (hn0 : 1 ≤ n) (w : World) (h : PgAt w base P p B G n c th vr W) :
    Calls Tryd.prog 53 #[.pointer (some ⟨P, 0, none⟩)] w fun e w' => ∃ P' p' B' G' c' q', e = .returned (.pointer (some ⟨P', 0, none⟩)) ∧ PcAt w' w.heap.size P' p' B' G' n c' q' th vr W ∧ Below w.heap.size w w' := by
  have H := Lib.hid h
  have hn := h.ar.le
  have hP := h.pl
  clear h
  go_enter Tryd.func53, Tryd.ntmps53
  go_wp2_with fail
  go_region_held3 (fun w' => ((PgAt w' base P p B G n c th vr W ∧ Below w.heap.size w w') ∧ World.cell? w' ⟨P, 0, none⟩ = some (.pointer (some ⟨p, 0, none⟩)) ∧ World.cell? w' ⟨P, 1, none⟩ = some (.slice (some ⟨G, 0, none⟩) n n))) (first | exact ck0 H.out | exact ckeep (by assumption) hb | exact ckeep (by assumption) ((Below.refl _ _).alloc (Nat.le_refl _) _) | assumption) (first
    | (go_at_call 84; (with_reducible refine (acopy_is hn0 _ (ck_ar (by assumption))).mono ?_); rintro e w1 ⟨p', B', c', rfl, hA, hb⟩; have HA := Lib.hid hA; have HS1 := Lib.hid hb.size; clear hA)
    | (go_at_call 86; (with_reducible refine (wclone_is _ hn0 hn (ck_row (by assumption))).mono ?_); rintro e w2 ⟨g', q', rfl, hr, hb⟩; have HR := Lib.hid hr; have HA2 := Lib.hid (HA.out.below hb); clear hr))
  have hB := ck_bel (by assumption)
  go_wp2_with fail
  go_ret
  have hs : w.heap.size ≤ w1.heap.size := by simpa using HS1.out
  have hs2 := hb.size
  exact ⟨_, p', B', g', c', q', rfl, ⟨by simp, by omega, by simp, by simp, HA2.out.below ((Below.refl _ _).alloc (Nat.le_refl _) _), (base_up HR.out hs).alloc _⟩, hB⟩
theorem pcwords_is {base P p B G n c q : Nat} {th : Nat → Bool} {vr : Nat → Int} {W : Nat → Nat → Int} (k : Nat) (hk : k < n) (ht : Hid (th k = true)) (w : World) (h : PcAt w base P p B G n c q th vr W) :
    Calls Tryd.prog 71 #[.pointer (some ⟨P, 0, none⟩), .int .i64 k] w fun e w' => ∃ g' c', e = .returned (.slice (some ⟨g', 0, none⟩) 32 c') ∧ w'.ownsRow w.heap.size 23 1 (.slice (some ⟨g', 0, none⟩) 32 c') 32 (((List.range 32).map fun j => W k j).map (Value.int .u32)) ∧ Below w.heap.size w w' := by
  have H := Lib.hid h
  have f0 := h.f0
  have f1 := h.f1
  have k0 : (0 : Int) ≤ k := by omega
  have k1 : (k : Int) < n := by omega
  clear h
  go_enter Tryd.func71, Tryd.ntmps71
  go_wp2_with (first
    | (go_at_call 66; (with_reducible refine (athere_in k hk true ht _ H.out.ar).mono ?_); rintro e w1 ⟨rfl, rfl⟩)
    | (go_at_call 95; (with_reducible refine (uclone_is G (k * 32) 32 32 ((List.range 32).map fun j => W k j) (Lib.hid (by simp)) (by decide) (by decide) _ (fun j hj => by rw [show Addr.add ⟨G, k * 32, none⟩ j = ⟨G, k * 32 + j, none⟩ by (unfold Addr.add; split <;> simp_all), H.out.row.cellAt (k * 32 + j) (by omega), flat_at W n k j hk hj]; simp [List.getD, hj]) (H.out.row.lt G rfl).2).mono ?_); rintro e w2 ⟨g', c', rfl, hr, hb⟩; have HR := Lib.hid hr; have HB := Lib.hid hb; clear hr hb))
  go_ret
  exact ⟨g', c', rfl, HR.out, HB.out⟩
theorem pcwords_no {base P p B G n c q : Nat} {th : Nat → Bool} {vr : Nat → Int} {W : Nat → Nat → Int} (id : Int) (ht : Hid (thereB n th id = false)) (w : World) (h : PcAt w base P p B G n c q th vr W) :
    Calls Tryd.prog 71 #[.pointer (some ⟨P, 0, none⟩), .int .i64 id] w fun e w' => e = .returned (.slice none 0 0) ∧ w = w' := by
  have H := Lib.hid h
  have f0 := h.f0
  clear h
  go_enter Tryd.func71, Tryd.ntmps71
  go_wp2_with (first | (go_at_call 66; (with_reducible refine (athere_is id false ht _ H.out.ar).mono ?_); rintro e w1 ⟨rfl, rfl⟩))
  go_ret
  exact ⟨rfl, rfl⟩
theorem own_ru {w : World} {B n c : Nat} {a : Option Addr} {xs : List Int} (h : w.ownsRow B 23 1 (.slice a n c) n (xs.map (Value.int .u32))) (hn : xs.length = n) : RU w a xs := by
  intro i hi
  rcases h.2 with ⟨_, h0⟩ | ⟨g, cap, cur, hv, hB, hg, rest⟩
  · omega
  · obtain rfl : a = some ⟨g, 0, none⟩ := by simp at hv; exact hv.1
    refine ⟨_, rfl, (h.lt g rfl).2, ?_⟩
    have := h.cellAt i (by omega)
    rw [show (Addr.add ⟨g, 0, none⟩ i) = ⟨g, i, none⟩ by (unfold Addr.add; split <;> simp_all), this]
    simp [List.getD, hi]
set_option maxRecDepth 100000 in
theorem samewords_yes (a b : Option Addr) (ca cb n : Nat) (xs : List Int) (hn : Hid (xs.length = n)) (hm : n ≤ 1000000) (w : World) (hx : RU w a xs) (hy : RU w b xs) :
    Calls Tryd.prog 70 #[.slice a n ca, .slice b n cb] w fun e w' => e = .returned (.bool true) ∧ Below w.heap.size w w' := by
  have HX := Lib.hid hx
  have HY := Lib.hid hy
  clear hx hy
  go_enter Tryd.func70, Tryd.ntmps70
  go_wp2_with fail
  go_loopw [5] (fun i wr => ∃ k : Nat, k ≤ n ∧ i = .int .i64 k ∧ Below w.heap.size w wr) (fun i _ => n - (intOf i).toNat)
  case atStart => exact ⟨0, by omega, rfl, Below.refl _ _⟩
  case round =>
    obtain ⟨k, hk, rfl, hb⟩ := hrel
    have HB := Lib.hid hb
    by_cases hlt : k < n
    · obtain ⟨ad, rfl, h1, c1⟩ := (HX.out.below hb) k (by rw [hn.out]; exact hlt)
      obtain ⟨bd, rfl, h2, c2⟩ := (HY.out.below hb) k (by rw [hn.out]; exact hlt)
      generalize xs.getD k 0 = x at c1 c2
      have k0 : (0 : Int) ≤ (k : Int) := by omega
      have k1 : (k : Int) < (n : Int) := by omega
      clear hb h1 h2
      go_wp2_with fail
      go_quiet (fail)
      go_wp2
      go_roundw
      case rel => exact ⟨k + 1, by omega, by go_num, below_drewN HB.out _⟩
      case measure => simp [intOf]; omega
    · obtain rfl : n = k := by omega
      have hdd : decide (n < n) = false := by simp
      clear hb
      go_wp2_with fail
      go_ret
      exact ⟨rfl, HB.out⟩
end Go.Proofs.YtkhgnmgcdgjncaaDoor
