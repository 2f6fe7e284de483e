/-
  PgF, Pg3, PgA, Ar5, ArP, Pg4, St, RightFns, StR, StG, Pa2, St2, Pa3, Sy, Sy2, Sy3, Pa, Pa4, Pa5, St3, Pa6, Pa7, Wy, Pa8, Pa9, PaN, Ca, Ca2, Ca3, Ca4, Me, Me2, Me3, Me4, Mf, Mg as one.
-/
import Derived.Test.YtncopdhhchmpeaaGreatDoorPg2
import Derived.Maps.AppendAt
import Derived.Test.YtncopdhhchmpeaaGreatDoorArL
import Derived.Test.YtncopdhhchmpeaaGreatDoorSen
import Derived.Test.YtncopdhhchmpeaaGreatDoorNd4
import Derived.Test.YtncopdhhchmpeaaGreatDoorKeyval
import Derived.WalkSmall
import Derived.Test.YtncopdhhchmpeaaGreatDoorNdK
import Derived.Test.YtncopdhhchmpeaaGreatDoorPl
import Derived.Test.YtncopdhhchmpeaaGreatDoorNd
import Derived.StillTailTactics
namespace Go.Proofs.YtncopdhhchmpeaaGreatDoor
open Go.ChangeShapes Go.WideShapes Go.ChangeAt Go.RowKit
set_option linter.unusedVariables false
theorem pmake_at {base P p B G n c : Nat} {th : Nat → Bool} {vr : Nat → Int} {W : Nat → Nat → Int} (id : Int) (a : Option Addr) (m c2 : Nat) (xs : List Int) (hm : Hid (xs.length = m)) (hx : m ≤ 32) (j : Nat) (hid : Hid (id = j)) (hj : j < n) (hyes : Hid (freeB th vr j = true)) (hno : Hid (∀ i, i < j → freeB th vr i = false)) (v : Int) (hv : Hid (vr j = v)) (w : World) (h : PgAt w base P p B G n c th vr W) (hs : SrcU w a xs B G) :
    Calls Tryz.prog 61 #[.pointer (some ⟨P, 0, none⟩), .slice a m c2] w fun e w' => e = .returned (.tuple #[.int .i64 id, .int .i64 v, .nilIface]) ∧ PgAt w' base P p B G n c (upd th j true) vr (fresh W j xs) ∧ PBelow w w' B G := by
  rw [hid.out]; exact pmake_ok a m c2 xs hm hx j hj hyes hno v hv w h hs
theorem pread_at {base P p B G n c : Nat} {th : Nat → Bool} {vr : Nat → Int} {W : Nat → Nat → Int} (kk aa : Int) (k at_ : Nat) (hkk : Hid (kk = k)) (haa : Hid (aa = at_)) (hk : k < n) (ha : at_ < 32) (ht : Hid (th k = true)) (x : Int) (hx : Hid (W k at_ = x)) (w : World) (h : PgAt w base P p B G n c th vr W) :
    Calls Tryz.prog 178 #[.pointer (some ⟨P, 0, none⟩), .int .i64 kk, .int .i64 aa] w fun e w' => e = .returned (.tuple #[.int .u32 x, .bool true]) ∧ w = w' := by
  rw [hkk.out, haa.out]; exact pread_is k at_ hk ha ht x hx w h
theorem rep0 (n j : Nat) : (List.replicate n (0 : Int)).getD j 0 = 0 := by
  simp only [List.getD, List.getElem?_replicate]
  split <;> rfl
theorem fresh_at (W : Nat → Nat → Int) (i : Nat) (xs : List Int) (j : Nat) (hj : j < 32) : fresh W i xs i j = if j < xs.length then xs.getD j 0 else 0 := by
  by_cases h : j < xs.length
  · simp [fresh, updW, h]
  · rw [if_neg h]
    unfold fresh updW
    rw [if_neg (fun e => h e.2), if_pos ⟨rfl, by simpa using hj⟩, rep0]
theorem fresh_other (W : Nat → Nat → Int) (i : Nat) (xs : List Int) (a j : Nat) (h : a ≠ i) : fresh W i xs a j = W a j := by
  simp [fresh, updW, h]
/-- Pages over a law's start. -/
structure PV (W0 w : World) (base P p B G n c : Nat) (th : Nat → Bool) (vr : Nat → Int) (W : Nat → Nat → Int) : Prop where
  bel : Below W0.heap.size W0 w
  wb : W0.heap.size ≤ base
  pg : PgAt w base P p B G n c th vr W
section
variable {W0 w w' : World} {base P p B G n c : Nat} {th th' : Nat → Bool} {vr vr' : Nat → Int} {W W' : Nat → Nat → Int}
theorem PV.ar (h : PV W0 w base P p B G n c th vr W) : ArAt w base p B n c th vr := h.pg.ar
theorem PV.lo (h : PV W0 w base P p B G n c th vr W) : W0.heap.size ≤ B ∧ W0.heap.size ≤ G := ⟨Nat.le_trans h.wb h.pg.ar.lt.1, Nat.le_trans h.wb (h.pg.row.lt G rfl).1⟩
theorem PV.step (h : PV W0 w base P p B G n c th vr W) (hb : Below w.heap.size w w') : PV W0 w' base P p B G n c th vr W := ⟨h.bel.trans (hb.mono h.bel.size), h.wb, h.pg.below hb⟩
theorem PV.turn (h : PV W0 w base P p B G n c th vr W) (hA : ArAt w' base p B n c th' vr') (hg : w.grownBy w' (some B)) : PV W0 w' base P p B G n c th' vr' W := ⟨below_grown h.bel hg h.lo.1, h.wb, h.pg.turn hA hg⟩
theorem PV.made (h : PV W0 w base P p B G n c th vr W) (hP : PgAt w' base P p B G n c th' vr' W') (hb : PBelow w w' B G) : PV W0 w' base P p B G n c th' vr' W' := ⟨h.bel.trans (hb.below h.lo.1 h.lo.2 h.bel.size), h.wb, hP⟩
theorem PV.congr (h : PV W0 w base P p B G n c th vr W) (h1 : ∀ i, i < n → th i = th' i) (h2 : ∀ i, i < n → vr i = vr' i) : PV W0 w base P p B G n c th' vr' W := ⟨h.bel, h.wb, h.pg.congr h1 h2⟩
theorem PV.wcongr (h : PV W0 w base P p B G n c th vr W) (h1 : ∀ i j, W i j = W' i j) : PV W0 w base P p B G n c th vr W' := by
  obtain rfl : W = W' := by funext i j; exact h1 i j
  exact h
end
/-- Words that are read there. -/
def RU (w : World) (a : Option Addr) (xs : List Int) : Prop := ∀ j, j < xs.length → ∃ ad, a = some ad ∧ ad.block < w.heap.size ∧ w.cell? (ad.add j) = some (.int .u32 (xs.getD j 0))
theorem RU.below {w w' : World} {a : Option Addr} {xs : List Int} (h : RU w a xs) (hb : Below w.heap.size w w') : RU w' a xs := by
  intro i hi
  obtain ⟨ad, h1, h2, h3⟩ := h i hi
  exact ⟨ad, h1, Nat.lt_of_lt_of_le h2 hb.size, (hb.cell (p := ad.add i) (by rw [add_block']; exact h2)).trans h3⟩
theorem srcu_arg {W0 w : World} {base P p B G n c : Nat} {th : Nat → Bool} {vr : Nat → Int} {W : Nat → Nat → Int} {a : Option Addr} {xs : List Int} (h : PV W0 w base P p B G n c th vr W) (hr : RU W0 a xs) : SrcU w a xs B G := ⟨fun j hj => by
  obtain ⟨ad, h1, h2, h3⟩ := hr j hj
  have hs := h.bel.size
  have hl := h.lo
  exact ⟨ad, h1, by omega, by omega, by omega, (h.bel.cell (p := ad.add j) (by rw [add_block']; exact h2)).trans h3⟩⟩
theorem ru_row {w : World} {a : Option Addr} {len cap : Nat} {zs : List Int} (h : IsRow .u32 w a len cap zs) : ∃ xs : List Int, xs.length = len ∧ RU w a xs ∧ len ≤ 9223372036854775807 := by
  rcases h with ⟨rfl, rfl, -, -⟩ | ⟨x, rfl, h1, h2, h3, h4, h5⟩
  · exact ⟨[], rfl, fun i hi => by simp at hi, by omega⟩
  · refine ⟨zs.take len, by simp; omega, fun i hi => ?_, by unfold maxLen at h2; omega⟩
    have hi' : i < len := by simp at hi; omega
    have hc := h4 i (by omega)
    refine ⟨x, rfl, ?_, ?_⟩
    · rcases Nat.lt_or_ge x.block w.heap.size with h' | h'
      · exact h'
      · have e : (x.add i).block = x.block := add_block' x i
        simp [World.cell?, e, Array.getElem?_eq_none h'] at hc
    · rw [hc]
      simp [List.getD, hi']
theorem srcu1 (w : World) (x : Int) (t : TypeId) (B G : Nat) (h1 : B < w.heap.size) (h2 : G < w.heap.size) : SrcU (w.alloc (.cells #[.int .u32 x] t)) (some ⟨w.heap.size, 0, none⟩) [x] B G := by
  refine ⟨fun j hj => ⟨_, rfl, by simp, by simp; omega, by simp; omega, ?_⟩⟩
  match j, hj with
  | 0, _ => simp [Addr.add, List.getD]
end Go.Proofs.YtncopdhhchmpeaaGreatDoor
namespace Go.Proofs.YtncopdhhchmpeaaGreatDoor
open Go.ChangeShapes Go.WideShapes Go.ChangeAt Go.RowKit
set_option linter.unusedVariables false
theorem infoU : (Tryz.prog.info? 40).map (fun i => (i.zero, i.size, i.bytes)) = some (some (.int .u32 0), 1, 4) := by kernel_rfl
/-- One word anew. -/
def updA (W : Nat → Nat → Int) (i j : Nat) (x : Int) : Nat → Nat → Int := fun a b => if a = i ∧ b = j then x else W a b
theorem flat_set (W : Nat → Nat → Int) (n i j : Nat) (x : Int) (hi : i < n) (hj : j < 32) : (flat W n).set (i * 32 + j) (.int .u32 x) = flat (updA W i j x) n := by
  apply List.ext_getElem?
  intro q
  by_cases hq : q < n * 32
  · by_cases e : q = i * 32 + j
    · subst e
      rw [List.getElem?_set_self (by rw [flat_len]; exact hq), flat_at _ n i j hi hj]
      simp [updA]
    · rw [List.getElem?_set_ne (by omega)]
      have : ¬ (q / 32 = i ∧ q % 32 = j) := by omega
      simp only [flat, List.getElem?_map, List.getElem?_range hq, Option.map_some, updA, if_neg this]
  · rw [List.getElem?_eq_none (by rw [List.length_set, flat_len]; omega), List.getElem?_eq_none (by rw [flat_len]; omega)]
section
variable {w w' : World} {base P p B G n c : Nat} {th : Nat → Bool} {vr : Nat → Int} {W : Nat → Nat → Int}
theorem PgAt.put (h : PgAt w base P p B G n c th vr W) (i j : Nat) (hi : i < n) (hj : j < 32) (x : Int) : PgAt (w.setCell ⟨G, i * 32 + j, none⟩ (.int .u32 x)) base P p B G n c th vr (updA W i j x) ∧ PBelow w (w.setCell ⟨G, i * 32 + j, none⟩ (.int .u32 x)) B G := by
  have hs := h.row.stored (i * 32 + j) (.int .u32 x)
  rw [flat_set W n i j x hi hj] at hs
  exact ⟨⟨Nat.lt_of_lt_of_le h.pl hs.2.size, h.pb, (World.cell?_of_block (a := ⟨P, 0, none⟩) (hs.2.block P h.pl (fun e => h.n2 (by injection e)))).trans h.f0, (World.cell?_of_block (a := ⟨P, 1, none⟩) (hs.2.block P h.pl (fun e => h.n2 (by injection e)))).trans h.f1, h.ar.kept hs.2 (Ne.symm h.n4) (Ne.symm h.n3), hs.1, h.n1, h.n2, h.n3, h.n4⟩, PBelow.of hs.2 (.inr rfl)⟩
theorem PgAt.kept {F : Nat} (h : PgAt w base P p B G n c th vr W) (hg : w.grownBy w' (some F)) (h1 : F ≠ P) (h2 : F ≠ p) (h3 : F ≠ B) (h4 : F ≠ G) : PgAt w' base P p B G n c th vr W :=
  ⟨Nat.lt_of_lt_of_le h.pl hg.size, h.pb, (World.cell?_of_block (a := ⟨P, 0, none⟩) (hg.block P h.pl (fun e => h1 (by injection e with e; exact e.symm)))).trans h.f0, (World.cell?_of_block (a := ⟨P, 1, none⟩) (hg.block P h.pl (fun e => h1 (by injection e with e; exact e.symm)))).trans h.f1, h.ar.kept hg (Ne.symm h2) (Ne.symm h3), h.row.kept hg (.inr (fun e => h4 (by simpa [Value.ownBlock] using e.symm))), h.n1, h.n2, h.n3, h.n4⟩
end
theorem pwrite_is {base P p B G n c : Nat} {th : Nat → Bool} {vr : Nat → Int} {W : Nat → Nat → Int} (k at_ : Nat) (hk : k < n) (ha : at_ < 32) (ht : Hid (th k = true)) (x : Int) (w : World) (h : PgAt w base P p B G n c th vr W) :
    Calls Tryz.prog 180 #[.pointer (some ⟨P, 0, none⟩), .int .i64 k, .int .i64 at_, .int .u32 x] w fun e w' => e = .returned (.bool true) ∧ PgAt w' base P p B G n c th vr (updA W k at_ x) ∧ PBelow w w' B G := by
  have H := Lib.hid h
  have H2 := Lib.hid (h.put k at_ hk ha x)
  have f1 := h.f1
  have c1 := h.word k at_ hk ha
  have z1 := h.row.frozenAt (k * 32 + at_)
  have a0 : (0 : Int) ≤ at_ := by omega
  have a1 : (at_ : Int) < 32 := by omega
  have k0 : (0 : Int) ≤ k := by omega
  have k1 : (k : Int) < n := by omega
  clear h
  go_enter Tryz.func180, Tryz.ntmps180
  go_wp2_with (first | (go_at_call 203; (with_reducible refine (phas_is k at_ hk ha ht _ H.out).mono ?_); rintro e w1 ⟨rfl, rfl⟩))
  go_ret
  exact ⟨rfl, H2.out⟩
set_option maxRecDepth 100000 in
theorem uclone_is (g o c n : Nat) (xs : List Int) (hn : Hid (xs.length = n)) (h0 : 0 < n) (hm : n ≤ 1000) (w : World) (hx : ∀ j, j < n → w.cell? (Addr.add ⟨g, o, none⟩ j) = some (.int .u32 (xs.getD j 0))) (hg : g < w.heap.size) :
    Calls Tryz.prog 217 #[.slice (some ⟨g, o, none⟩) n c] w fun e w' => ∃ g' c', e = .returned (.slice (some ⟨g', 0, none⟩) n c') ∧ w'.ownsRow w.heap.size 40 1 (.slice (some ⟨g', 0, none⟩) n c') n (xs.map (Value.int .u32)) ∧ Below w.heap.size w w' := by
  obtain ⟨i0, hi, hz0, hz1, hz2⟩ := info_parts infoU
  have HI := Lib.hid (⟨hi, hz0, hz1, hz2⟩ : Tryz.prog.info? 40 = some i0 ∧ i0.zero = some (.int .u32 0) ∧ i0.size = 1 ∧ i0.bytes = 4)
  have HX := Lib.hid hx
  clear hi hz0 hz1 hz2 hx
  have hq := fun W : World => Lib.run_eql_slice_nil W 36 40 (some ⟨g, o, none⟩) n c 0 0 Tryz.underlying36
  go_enter Tryz.func217, Tryz.ntmps217
  have HOwn : Hid ((w.alloc (.cells #[] 40)).ownsRow w.heap.size 40 1 (.slice (some ⟨w.heap.size, 0, none⟩) 0 0) 0 []) := Lib.hid ⟨rfl, .inr ⟨w.heap.size, 0, #[], rfl, Nat.le_refl _, heap_alloc_new _ _, by decide, by decide, by rfl, by rfl⟩⟩
  go_wp2_with (first | (at_builtin; refine wpList_append_own _ rfl _ _ 36 rfl w.heap.size 40 i0 (.int .u32 0) 1 4 Tryz.underlying36 HI.out.1 HI.out.2.1 HI.out.2.2.1 HI.out.2.2.2 rfl (by decide) _ _ _ rfl HOwn.out ⟨g, o, none⟩ n c (xs.map (Value.int .u32)) rfl ?c0 ?c1 ?c2 ?c3 ?c4 ?c5 ?_))
  case c0 => rw [List.length_map, hn.out]; omega
  case c1 =>
    intro j u hj
    have hjn : j < xs.length := by
      rcases Nat.lt_or_ge j xs.length with h' | h'
      · exact h'
      · rw [List.getElem?_eq_none (by rw [List.length_map]; omega)] at hj; cases hj
    have := HX.out j (by rw [← hn.out]; exact hjn)
    rw [World.cell?_alloc_lt w _ _ (by rw [add_block']; exact hg), this]
    simp [hjn] at hj
    simp [List.getD, hjn, hj]
  case c2 =>
    intro v hv
    obtain ⟨x, _, rfl⟩ := List.mem_map.1 hv
    rfl
  case c3 => unfold maxLen; omega
  case c4 => omega
  case c5 => simp
  intro v' w1 hown hgrow hne
  have HO := Lib.hid hown
  have HB : Hid (Below w.heap.size w w1) := Lib.hid (((Below.refl _ _).alloc (Nat.le_refl _) _ : Below w.heap.size w (w.alloc (.cells #[] 40))).grown hgrow (by simp) (fun k hk => by simp [Value.ownBlock] at hk; omega))
  clear hown hgrow hne
  go_wp2_with fail
  go_ret
  rcases HO.out.2 with ⟨hv, h1⟩ | ⟨g', c', cur, rfl, _⟩
  · omega
  · exact ⟨g', c', rfl, HO.out, HB.out⟩
theorem pwords_is {base P p B G n c : Nat} {th : Nat → Bool} {vr : Nat → Int} {W : Nat → Nat → Int} (k : Nat) (hk : k < n) (ht : Hid (th k = true)) (w : World) (h : PgAt w base P p B G n c th vr W) :
    Calls Tryz.prog 209 #[.pointer (some ⟨P, 0, none⟩), .int .i64 k] w fun e w' => ∃ g' c', e = .returned (.slice (some ⟨g', 0, none⟩) 32 c') ∧ w'.ownsRow w.heap.size 40 1 (.slice (some ⟨g', 0, none⟩) 32 c') 32 (((List.range 32).map fun j => W k j).map (Value.int .u32)) ∧ Below w.heap.size w w' := by
  have H := Lib.hid h
  have f0 := h.f0
  have f1 := h.f1
  have k0 : (0 : Int) ≤ k := by omega
  have k1 : (k : Int) < n := by omega
  clear h
  go_enter Tryz.func209, Tryz.ntmps209
  go_wp2_with (first
    | (go_at_call 63; (with_reducible refine (athere_in k hk true ht _ H.out.ar).mono ?_); rintro e w1 ⟨rfl, rfl⟩)
    | (go_at_call 217; (with_reducible refine (uclone_is G (k * 32) 32 32 ((List.range 32).map fun j => W k j) (Lib.hid (by simp)) (by decide) (by decide) _ (fun j hj => by rw [show Addr.add ⟨G, k * 32, none⟩ j = ⟨G, k * 32 + j, none⟩ by (unfold Addr.add; split <;> simp_all), H.out.word k j hk hj]; simp [List.getD, hj]) (H.out.row.lt G rfl).2).mono ?_); rintro e w2 ⟨g', c', rfl, hr, hb⟩; have HR := Lib.hid hr; have HB := Lib.hid hb; clear hr hb))
  go_ret
  exact ⟨g', c', rfl, HR.out, HB.out⟩
end Go.Proofs.YtncopdhhchmpeaaGreatDoor
namespace Go.Proofs.YtncopdhhchmpeaaGreatDoor
open Go.ChangeShapes Go.WideShapes Go.ChangeAt Go.RowKit
set_option linter.unusedVariables false
theorem pwrite_at {base P p B G n c : Nat} {th : Nat → Bool} {vr : Nat → Int} {W : Nat → Nat → Int} (kk aa : Int) (k at_ : Nat) (hkk : Hid (kk = k)) (haa : Hid (aa = at_)) (hk : k < n) (ha : at_ < 32) (ht : Hid (th k = true)) (x : Int) (w : World) (h : PgAt w base P p B G n c th vr W) :
    Calls Tryz.prog 180 #[.pointer (some ⟨P, 0, none⟩), .int .i64 kk, .int .i64 aa, .int .u32 x] w fun e w' => e = .returned (.bool true) ∧ PgAt w' base P p B G n c th vr (updA W k at_ x) ∧ PBelow w w' B G := by
  rw [hkk.out, haa.out]; exact pwrite_is k at_ hk ha ht x w h
theorem srcu2 (w : World) (x y : Int) (t : TypeId) (B G : Nat) (h1 : B < w.heap.size) (h2 : G < w.heap.size) : SrcU (w.alloc (.cells #[.int .u32 x, .int .u32 y] t)) (some ⟨w.heap.size, 0, none⟩) [x, y] B G := by
  refine ⟨fun j hj => ⟨_, rfl, by simp, by simp; omega, by simp; omega, ?_⟩⟩
  match j, hj with
  | 0, _ | 1, _ => simp [Addr.add, List.getD]
/-- The words while the pages are made. -/
def wk (k : Nat) : Nat → Nat → Int := fun a b => if a < k ∧ b < 2 then (a : Int) else 0
theorem wk_next (k a b : Nat) (hb : b < 32) : fresh (wk k) k [(k : Int), (k : Int)] a b = wk (k + 1) a b := by
  by_cases e : a = k
  · subst e
    rw [fresh_at _ _ _ _ hb]
    unfold wk
    match b with
    | 0 | 1 => simp
    | b + 2 => rw [if_neg (by simp), if_neg (by omega)]
  · rw [fresh_other _ _ _ _ _ e]
    unfold wk
    by_cases h : a < k ∧ b < 2
    · rw [if_pos h, if_pos ⟨by omega, h.2⟩]
    · rw [if_neg h, if_neg (by omega)]
theorem flat_congr {W W' : Nat → Nat → Int} (n : Nat) (h : ∀ i j, j < 32 → W i j = W' i j) : flat W n = flat W' n := by
  unfold flat
  apply List.map_congr_left
  intro q _
  rw [h _ _ (Nat.mod_lt _ (by decide))]
theorem PV.words {W0 w : World} {base P p B G n c : Nat} {th : Nat → Bool} {vr : Nat → Int} {W W' : Nat → Nat → Int} (h : PV W0 w base P p B G n c th vr W) (h1 : ∀ i j, j < 32 → W i j = W' i j) : PV W0 w base P p B G n c th vr W' :=
  ⟨h.bel, h.wb, ⟨h.pg.pl, h.pg.pb, h.pg.f0, h.pg.f1, h.pg.ar, by rw [← flat_congr n h1]; exact h.pg.row, h.pg.n1, h.pg.n2, h.pg.n3, h.pg.n4⟩⟩
/-- The pages, and what was handed out of one. -/
structure LR (W0 w : World) (base P p B G n c : Nat) (th : Nat → Bool) (vr : Nat → Int) (W : Nat → Nat → Int) (g c' : Nat) : Prop where
  pv : PV W0 w base P p B G n c th vr W
  row : ∃ ys : List Int, ys.length = 32 ∧ w.ownsRow W0.heap.size 40 1 (.slice (some ⟨g, 0, none⟩) 32 c') 32 (ys.map (Value.int .u32))
  n1 : g ≠ P
  n2 : g ≠ p
  n3 : g ≠ B
  n4 : g ≠ G
section
variable {W0 w w' : World} {base P p B G n c g c' : Nat} {th : Nat → Bool} {vr : Nat → Int} {W : Nat → Nat → Int}
theorem LR.at (h : LR W0 w base P p B G n c th vr W g c') (k : Nat) (hk : k < 32) : ∃ x, w.cell? ⟨g, k, none⟩ = some (.int .u32 x) ∧ w.frozen? ⟨g, k, none⟩ = false := by
  obtain ⟨ys, hy, hr⟩ := h.row
  refine ⟨ys.getD k 0, ?_, hr.frozenAt k⟩
  rw [hr.cellAt k (by omega)]
  have : k < ys.length := by omega
  simp [List.getD, this]
theorem LR.put (h : LR W0 w base P p B G n c th vr W g c') (k : Nat) (x : Int) : LR W0 (w.setCell ⟨g, k, none⟩ (.int .u32 x)) base P p B G n c th vr W g c' := by
  obtain ⟨ys, hy, hr⟩ := h.row
  have hs := hr.stored k (.int .u32 x)
  refine ⟨⟨h.pv.bel.grown hs.2 h.pv.bel.size (fun j hj => by injection hj with e; have := (hr.lt g rfl).1; omega), h.pv.wb, h.pv.pg.kept hs.2 h.n1 h.n2 h.n3 h.n4⟩, ⟨ys.set k x, by simpa using hy, by rw [List.map_set]; exact hs.1⟩, h.n1, h.n2, h.n3, h.n4⟩
theorem LR.start (h : PV W0 w base P p B G n c th vr W) (xs : List Int) (hx : xs.length = 32) (hr : w'.ownsRow w.heap.size 40 1 (.slice (some ⟨g, 0, none⟩) 32 c') 32 (xs.map (Value.int .u32))) (hb : Below w.heap.size w w') : LR W0 w' base P p B G n c th vr W g c' := by
  have hg := (hr.lt g rfl).1
  have h1 := h.pg.pl
  have h2 := h.pg.ar.pl
  have h3 := h.pg.ar.lt.2
  have h4 := (h.pg.row.lt G rfl).2
  refine ⟨h.step hb, ⟨xs, hx, hr.1, ?_⟩, by omega, by omega, by omega, by omega⟩
  rcases hr.2 with h0 | ⟨g, cap, cur, hv, hB, rest⟩
  · exact .inl h0
  · exact .inr ⟨g, cap, cur, hv, Nat.le_trans h.bel.size hB, rest⟩
end
end Go.Proofs.YtncopdhhchmpeaaGreatDoor
namespace Go.Proofs.YtncopdhhchmpeaaGreatDoor
open Go.ChangeShapes Go.WideShapes Go.ChangeAt Go.RowKit
set_option linter.unusedVariables false
theorem plc_cells (th : Nat → Bool) (vr : Nat → Int) (n : Nat) : ∀ u ∈ plc th vr n, u.oneCell' = true := by
  induction n with
  | zero => intro u hu; simp [plc] at hu
  | succ n ih =>
    intro u hu
    rcases List.mem_append.1 hu with h | h
    · exact ih u h
    · simp at h
      rcases h with rfl | rfl <;> rfl
end Go.Proofs.YtncopdhhchmpeaaGreatDoor
namespace Go.Proofs.YtncopdhhchmpeaaGreatDoor
open Go.ChangeShapes Go.WideShapes Go.ChangeAt Go.RowKit
set_option linter.unusedVariables false
theorem infoInt : (Tryz.prog.info? 3).map (fun i => (i.zero, i.size, i.bytes)) = some (some (.int .i64 0), 1, 8) := by kernel_rfl
section
variable {W w w' : World} {base p B n c F : Nat} {vr : Nat → Int}
/-- A row of numbers of the law's own. -/
def IR (w : World) (base F n : Nat) (vr : Nat → Int) : Prop := w.ownsRow base 3 1 (.slice (some ⟨F, 0, none⟩) n n) n ((List.range n).map fun i => Value.int .i64 (vr i))
theorem IR.at (h : IR w base F n vr) (k : Nat) (hk : k < n) : w.cell? ⟨F, k, none⟩ = some (.int .i64 (vr k)) := by
  have := World.ownsRow.cellAt h k (by omega)
  rw [this]
  simp [hk]
theorem IR.lt (h : IR w base F n vr) : base ≤ F ∧ F < w.heap.size := World.ownsRow.lt h F rfl
theorem IR.free (h : IR w base F n vr) (k : Nat) : w.frozen? ⟨F, k, none⟩ = false := World.ownsRow.frozenAt h k
theorem IR.below (h : IR w base F n vr) (hb : Below w.heap.size w w') : IR w' base F n vr := own_below h hb
theorem IR.kept (h : IR w base F n vr) (hg : w.grownBy w' (some B)) (hB : F ≠ B) : IR w' base F n vr := World.ownsRow.kept h hg (.inr (by simpa [Value.ownBlock] using hB))
theorem IR.set (h : IR w base F n vr) (k : Nat) (hk : k < n) (x : Int) : IR (w.setCell ⟨F, k, none⟩ (.int .i64 x)) base F n (upd vr k x) ∧ w.grownBy (w.setCell ⟨F, k, none⟩ (.int .i64 x)) (some F) := by
  have hs := World.ownsRow.stored h k (.int .i64 x)
  refine ⟨?_, hs.2⟩
  unfold IR
  have e : ((List.range n).map fun i => Value.int .i64 (upd vr k x i)) = ((List.range n).map fun i => Value.int .i64 (vr i)).set k (.int .i64 x) := by
    apply List.ext_getElem?
    intro j
    by_cases hj : j < n
    · by_cases e : j = k
      · subst e
        simp [upd, hj]
      · rw [List.getElem?_set_ne (by omega)]
        simp [upd, e, hj]
    · rw [List.getElem?_eq_none (by simp; omega), List.getElem?_eq_none (by simp; omega)]
  rw [e]
  exact hs.1
end
/-- The law's state: who is there, the versions, in the arena and in the law's own rows alike. -/
structure PS (W w : World) (base p B n c L V : Nat) (th lv : Nat → Bool) (va vr : Nat → Int) : Prop where
  vv : VV W w base p B n c th va
  lv : FR w W.heap.size L n lv
  vr : IR w W.heap.size V n vr
  lb : L ≠ B
  lp : L ≠ p
  vb : V ≠ B
  vp : V ≠ p
  lvn : L ≠ V
section
variable {W w w' : World} {base p B n c L V : Nat} {th th' lv lv' : Nat → Bool} {va va' vr vr' : Nat → Int}
theorem PS.step (h : PS W w base p B n c L V th lv va vr) (hb : Below w.heap.size w w') : PS W w' base p B n c L V th lv va vr := ⟨h.vv.step hb, h.lv.below hb, h.vr.below hb, h.lb, h.lp, h.vb, h.vp, h.lvn⟩
theorem PS.turn (h : PS W w base p B n c L V th lv va vr) (hA : ArAt w' base p B n c th' va') (hg : w.grownBy w' (some B)) : PS W w' base p B n c L V th' lv va' vr := ⟨h.vv.turn hA hg, h.lv.kept hg h.lb, h.vr.kept hg h.vb, h.lb, h.lp, h.vb, h.vp, h.lvn⟩
theorem PS.putL (h : PS W w base p B n c L V th lv va vr) (k : Nat) (hk : k < n) (x : Bool) : PS W (w.setCell ⟨L, k, none⟩ (.bool x)) base p B n c L V th (upd lv k x) va vr := by
  have hs := h.lv.set k hk x
  refine ⟨⟨?_, h.vv.ar.kept hs.2 (Ne.symm h.lp) (Ne.symm h.lb), h.vv.2.2⟩, hs.1, h.vr.kept hs.2 (Ne.symm h.lvn), h.lb, h.lp, h.vb, h.vp, h.lvn⟩
  exact h.vv.1.grown hs.2 h.vv.1.size (fun j hj => by injection hj with e; have := h.lv.lt.1; omega)
theorem PS.putV (h : PS W w base p B n c L V th lv va vr) (k : Nat) (hk : k < n) (x : Int) : PS W (w.setCell ⟨V, k, none⟩ (.int .i64 x)) base p B n c L V th lv va (upd vr k x) := by
  have hs := h.vr.set k hk x
  refine ⟨⟨?_, h.vv.ar.kept hs.2 (Ne.symm h.vp) (Ne.symm h.vb), h.vv.2.2⟩, h.lv.kept hs.2 h.lvn, hs.1, h.lb, h.lp, h.vb, h.vp, h.lvn⟩
  exact h.vv.1.grown hs.2 h.vv.1.size (fun j hj => by injection hj with e; have := h.vr.lt.1; omega)
end
end Go.Proofs.YtncopdhhchmpeaaGreatDoor
namespace Go.Proofs.YtncopdhhchmpeaaGreatDoor
open Go.ChangeShapes Go.WideShapes Go.ChangeAt Go.RowKit
set_option linter.unusedVariables false
theorem pwords_no {base P p B G n c : Nat} {th : Nat → Bool} {vr : Nat → Int} {W : Nat → Nat → Int} (id : Int) (ht : Hid (thereB n th id = false)) (w : World) (h : PgAt w base P p B G n c th vr W) :
    Calls Tryz.prog 209 #[.pointer (some ⟨P, 0, none⟩), .int .i64 id] w fun e w' => e = .returned (.slice none 0 0) ∧ w = w' := by
  have H := Lib.hid h
  have f0 := h.f0
  clear h
  go_enter Tryz.func209, Tryz.ntmps209
  go_wp2_with (first | (go_at_call 63; (with_reducible refine (athere_is id false ht _ H.out.ar).mono ?_); rintro e w1 ⟨rfl, rfl⟩))
  go_ret
  exact ⟨rfl, rfl⟩
theorem phas_no {base P p B G n c : Nat} {th : Nat → Bool} {vr : Nat → Int} {W : Nat → Nat → Int} (id at_ : Int) (ht : Hid ((thereB n th id && decide (0 ≤ at_ ∧ at_ < 32)) = false)) (w : World) (h : PgAt w base P p B G n c th vr W) :
    Calls Tryz.prog 203 #[.pointer (some ⟨P, 0, none⟩), .int .i64 id, .int .i64 at_] w fun e w' => e = .returned (.bool false) ∧ w = w' := by
  have H := Lib.hid h
  have f0 := h.f0
  clear h
  by_cases h1 : thereB n th id = true
  · have H1 := Lib.hid h1
    have h2 : ¬ (0 ≤ at_ ∧ at_ < 32) := by
      have := ht.out
      rw [h1] at this
      simpa using this
    by_cases h3 : 0 ≤ at_
    · have d0 : decide (0 ≤ at_) = true := decide_eq_true h3
      have d1 : decide (at_ < 32) = false := decide_eq_false (by omega)
      clear h1 h2 h3
      go_enter Tryz.func203, Tryz.ntmps203
      go_wp2_with (first | (go_at_call 63; (with_reducible refine (athere_is id true H1 _ H.out.ar).mono ?_); rintro e w1 ⟨rfl, rfl⟩))
      go_ret
      exact ⟨rfl, rfl⟩
    · have d0 : decide (0 ≤ at_) = false := decide_eq_false h3
      clear h1 h2 h3
      go_enter Tryz.func203, Tryz.ntmps203
      go_wp2_with (first | (go_at_call 63; (with_reducible refine (athere_is id true H1 _ H.out.ar).mono ?_); rintro e w1 ⟨rfl, rfl⟩))
      go_ret
      exact ⟨rfl, rfl⟩
  · have H1 : Hid (thereB n th id = false) := Lib.hid (by simpa using h1)
    clear h1
    go_enter Tryz.func203, Tryz.ntmps203
    go_wp2_with (first | (go_at_call 63; (with_reducible refine (athere_is id false H1 _ H.out.ar).mono ?_); rintro e w1 ⟨rfl, rfl⟩))
    go_ret
    exact ⟨rfl, rfl⟩
theorem pread_no {base P p B G n c : Nat} {th : Nat → Bool} {vr : Nat → Int} {W : Nat → Nat → Int} (id at_ : Int) (ht : Hid ((thereB n th id && decide (0 ≤ at_ ∧ at_ < 32)) = false)) (w : World) (h : PgAt w base P p B G n c th vr W) :
    Calls Tryz.prog 178 #[.pointer (some ⟨P, 0, none⟩), .int .i64 id, .int .i64 at_] w fun e w' => e = .returned (.tuple #[.int .u32 0, .bool false]) ∧ w = w' := by
  have H := Lib.hid h
  clear h
  go_enter Tryz.func178, Tryz.ntmps178
  go_wp2_with (first | (go_at_call 203; (with_reducible refine (phas_no id at_ ht _ H.out).mono ?_); rintro e w1 ⟨rfl, rfl⟩))
  go_ret2
  exact ⟨rfl, rfl⟩
theorem pwrite_no {base P p B G n c : Nat} {th : Nat → Bool} {vr : Nat → Int} {W : Nat → Nat → Int} (id at_ x : Int) (ht : Hid ((thereB n th id && decide (0 ≤ at_ ∧ at_ < 32)) = false)) (w : World) (h : PgAt w base P p B G n c th vr W) :
    Calls Tryz.prog 180 #[.pointer (some ⟨P, 0, none⟩), .int .i64 id, .int .i64 at_, .int .u32 x] w fun e w' => e = .returned (.bool false) ∧ w = w' := by
  have H := Lib.hid h
  clear h
  go_enter Tryz.func180, Tryz.ntmps180
  go_wp2_with (first | (go_at_call 203; (with_reducible refine (phas_no id at_ ht _ H.out).mono ?_); rintro e w1 ⟨rfl, rfl⟩))
  go_ret
  exact ⟨rfl, rfl⟩
set_option maxRecDepth 100000 in
theorem pmake_many {P : Nat} (a : Option Addr) (m c2 : Nat) (hm : 32 < m) (v : Addr) (tp : TypeId) (w : World) (hE : w.cell? ⟨2, 0, none⟩ = some (.iface tp (.pointer (some v)))) :
    Calls Tryz.prog 61 #[.pointer (some ⟨P, 0, none⟩), .slice a m c2] w fun e w' => e = .returned (.tuple #[.int .i64 0, .int .i64 0, .iface tp (.pointer (some v))]) ∧ Below w.heap.size w w' := by
  have d0 : decide ((32 : Int) < (m : Int)) = true := by simp; omega
  go_enter Tryz.func61, Tryz.ntmps61
  go_wp2_with fail
  go_quiet (fail)
  go_wp2_with fail
  go_ret3
  exact ⟨rfl, below_drewN (Below.refl _ _) _⟩
set_option maxRecDepth 100000 in
theorem pmake_fullg {base P p B G n c : Nat} {th : Nat → Bool} {vr : Nat → Int} {W : Nat → Nat → Int} (a : Option Addr) (m c2 : Nat) (hm : m ≤ 32) (w : World) (h : PgAt w base P p B G n c th vr W) (hno : Hid (∀ i, i < n → freeB th vr i = false)) (v : Addr) (tp : TypeId) (hE : w.cell? ⟨5, 0, none⟩ = some (.iface tp (.pointer (some v)))) (hl : 5 < w.heap.size) :
    Calls Tryz.prog 61 #[.pointer (some ⟨P, 0, none⟩), .slice a m c2] w fun e w' => e = .returned (.tuple #[.int .i64 0, .int .i64 0, .iface tp (.pointer (some v))]) ∧ Below w.heap.size w w' := by
  have H := Lib.hid h
  have HE := Lib.hid hE
  have f0 := h.f0
  have d0 : decide ((32 : Int) < (m : Int)) = false := by simp; omega
  clear h hE
  go_enter Tryz.func61, Tryz.ntmps61
  go_wp2_with (first
    | (go_at_call 65; (with_reducible refine (atake_full _ H.out.ar hno _ HE.out hl).mono ?_); rintro e w1 ⟨rfl, hb⟩; have HB := Lib.hid hb; clear hb))
  go_ret3
  exact ⟨rfl, HB.out⟩
/-- A copy of pages: as pages, but its row may have room to spare. -/
structure PcAt (w : World) (base P p B G n c q : Nat) (th : Nat → Bool) (vr : Nat → Int) (W : Nat → Nat → Int) : Prop where
  pl : P < w.heap.size
  pb : base ≤ P
  f0 : w.cell? ⟨P, 0, none⟩ = some (.pointer (some ⟨p, 0, none⟩))
  f1 : w.cell? ⟨P, 1, none⟩ = some (.slice (some ⟨G, 0, none⟩) n q)
  ar : ArAt w base p B n c th vr
  row : w.ownsRow base 179 32 (.slice (some ⟨G, 0, none⟩) n q) n (flat W n)
theorem flat_one (W : Nat → Nat → Int) (n : Nat) : ∀ u ∈ flat W n, u.oneCell' = true := by
  intro u hu
  obtain ⟨x, _, rfl⟩ := List.mem_map.1 hu
  rfl
theorem base_up {w : World} {B B' e s n : Nat} {v : Value} {xs : List Value} (h : w.ownsRow B e s v n xs) (hb : B' ≤ B) : w.ownsRow B' e s v n xs := by
  refine ⟨h.1, ?_⟩
  rcases h.2 with h0 | ⟨g, cap, cur, hv, hB, rest⟩
  · exact .inl h0
  · exact .inr ⟨g, cap, cur, hv, Nat.le_trans hb hB, rest⟩
section
variable {w X Y : World} {base P p B G n c : Nat} {th : Nat → Bool} {vr : Nat → Int} {W : Nat → Nat → Int}
theorem ck0 (h : PgAt w base P p B G n c th vr W) : ((PgAt w.drew base P p B G n c th vr W ∧ Below w.heap.size w w.drew) ∧ World.cell? w.drew ⟨P, 0, none⟩ = some (.pointer (some ⟨p, 0, none⟩)) ∧ World.cell? w.drew ⟨P, 1, none⟩ = some (.slice (some ⟨G, 0, none⟩) n n)) := by
  have hb : Below w.heap.size w w.drew := (Below.refl _ _).drew
  have h2 := h.below hb
  exact ⟨⟨h2, hb⟩, h2.f0, h2.f1⟩
theorem ckeep (h : ((PgAt X base P p B G n c th vr W ∧ Below w.heap.size w X) ∧ World.cell? X ⟨P, 0, none⟩ = some (.pointer (some ⟨p, 0, none⟩)) ∧ World.cell? X ⟨P, 1, none⟩ = some (.slice (some ⟨G, 0, none⟩) n n))) (hb : Below X.heap.size X Y) : ((PgAt Y base P p B G n c th vr W ∧ Below w.heap.size w Y) ∧ World.cell? Y ⟨P, 0, none⟩ = some (.pointer (some ⟨p, 0, none⟩)) ∧ World.cell? Y ⟨P, 1, none⟩ = some (.slice (some ⟨G, 0, none⟩) n n)) := by
  have h2 := h.1.1.below hb
  exact ⟨⟨h2, h.1.2.trans (hb.mono h.1.2.size)⟩, h2.f0, h2.f1⟩
theorem ck_ar (h : ((PgAt X base P p B G n c th vr W ∧ Below w.heap.size w X) ∧ World.cell? X ⟨P, 0, none⟩ = some (.pointer (some ⟨p, 0, none⟩)) ∧ World.cell? X ⟨P, 1, none⟩ = some (.slice (some ⟨G, 0, none⟩) n n))) : ArAt X base p B n c th vr := h.1.1.ar
theorem ck_row (h : ((PgAt X base P p B G n c th vr W ∧ Below w.heap.size w X) ∧ World.cell? X ⟨P, 0, none⟩ = some (.pointer (some ⟨p, 0, none⟩)) ∧ World.cell? X ⟨P, 1, none⟩ = some (.slice (some ⟨G, 0, none⟩) n n))) : X.ownsRow base 179 32 (.slice (some ⟨G, 0, none⟩) n n) n (flat W n) := h.1.1.row
theorem ck_bel (h : ((PgAt X base P p B G n c th vr W ∧ Below w.heap.size w X) ∧ World.cell? X ⟨P, 0, none⟩ = some (.pointer (some ⟨p, 0, none⟩)) ∧ World.cell? X ⟨P, 1, none⟩ = some (.slice (some ⟨G, 0, none⟩) n n))) : Below w.heap.size w X := h.1.2
end
theorem pcwords_is {base P p B G n c q : Nat} {th : Nat → Bool} {vr : Nat → Int} {W : Nat → Nat → Int} (k : Nat) (hk : k < n) (ht : Hid (th k = true)) (w : World) (h : PcAt w base P p B G n c q th vr W) :
    Calls Tryz.prog 209 #[.pointer (some ⟨P, 0, none⟩), .int .i64 k] w fun e w' => ∃ g' c', e = .returned (.slice (some ⟨g', 0, none⟩) 32 c') ∧ w'.ownsRow w.heap.size 40 1 (.slice (some ⟨g', 0, none⟩) 32 c') 32 (((List.range 32).map fun j => W k j).map (Value.int .u32)) ∧ Below w.heap.size w w' := by
  have H := Lib.hid h
  have f0 := h.f0
  have f1 := h.f1
  have k0 : (0 : Int) ≤ k := by omega
  have k1 : (k : Int) < n := by omega
  clear h
  go_enter Tryz.func209, Tryz.ntmps209
  go_wp2_with (first
    | (go_at_call 63; (with_reducible refine (athere_in k hk true ht _ H.out.ar).mono ?_); rintro e w1 ⟨rfl, rfl⟩)
    | (go_at_call 217; (with_reducible refine (uclone_is G (k * 32) 32 32 ((List.range 32).map fun j => W k j) (Lib.hid (by simp)) (by decide) (by decide) _ (fun j hj => by rw [show Addr.add ⟨G, k * 32, none⟩ j = ⟨G, k * 32 + j, none⟩ by (unfold Addr.add; split <;> simp_all), H.out.row.cellAt (k * 32 + j) (by omega), flat_at W n k j hk hj]; simp [List.getD, hj]) (H.out.row.lt G rfl).2).mono ?_); rintro e w2 ⟨g', c', rfl, hr, hb⟩; have HR := Lib.hid hr; have HB := Lib.hid hb; clear hr hb))
  go_ret
  exact ⟨g', c', rfl, HR.out, HB.out⟩
theorem pcwords_no {base P p B G n c q : Nat} {th : Nat → Bool} {vr : Nat → Int} {W : Nat → Nat → Int} (id : Int) (ht : Hid (thereB n th id = false)) (w : World) (h : PcAt w base P p B G n c q th vr W) :
    Calls Tryz.prog 209 #[.pointer (some ⟨P, 0, none⟩), .int .i64 id] w fun e w' => e = .returned (.slice none 0 0) ∧ w = w' := by
  have H := Lib.hid h
  have f0 := h.f0
  clear h
  go_enter Tryz.func209, Tryz.ntmps209
  go_wp2_with (first | (go_at_call 63; (with_reducible refine (athere_is id false ht _ H.out.ar).mono ?_); rintro e w1 ⟨rfl, rfl⟩))
  go_ret
  exact ⟨rfl, rfl⟩
theorem own_ru {w : World} {B n c : Nat} {a : Option Addr} {xs : List Int} (h : w.ownsRow B 40 1 (.slice a n c) n (xs.map (Value.int .u32))) (hn : xs.length = n) : RU w a xs := by
  intro i hi
  rcases h.2 with ⟨_, h0⟩ | ⟨g, cap, cur, hv, hB, hg, rest⟩
  · omega
  · obtain rfl : a = some ⟨g, 0, none⟩ := by simp at hv; exact hv.1
    refine ⟨_, rfl, (h.lt g rfl).2, ?_⟩
    have := h.cellAt i (by omega)
    rw [show (Addr.add ⟨g, 0, none⟩ i) = ⟨g, i, none⟩ by (unfold Addr.add; split <;> simp_all), this]
    simp [List.getD, hi]
end Go.Proofs.YtncopdhhchmpeaaGreatDoor
namespace Go.Proofs.YtncopdhhchmpeaaGreatDoor
open Go.ChangeShapes Go.WideShapes Go.ChangeAt Go.RowKit
set_option linter.unusedVariables false
/-- Where nodes (or pages) lie, how many. -/
structure Shp where
  b : Nat
  P : Nat
  p : Nat
  B : Nat
  G : Nat
  n : Nat
  c : Nat
/-- A store lies at S: its nodes, its pages behind them. -/
structure StAt (w : World) (S : Nat) (a b : Shp) (th : Nat → Bool) (vr_ : Nat → Int) (W : Nat → Nat → Value) (th2 : Nat → Bool) (vr2 : Nat → Int) (W2 : Nat → Nat → Int) : Prop where
  s0 : w.cell? ⟨S, 0, none⟩ = some (.pointer (some ⟨a.P, 0, none⟩))
  s1 : w.cell? ⟨S, 1, none⟩ = some (.pointer (some ⟨b.P, 0, none⟩))
  sl : S < w.heap.size
  nd : NdAt w a.b a.P a.p a.B a.G a.n a.c th vr_ W
  pg : PgAt w b.b b.P b.p b.B b.G b.n b.c th2 vr2 W2
  ab : a.b ≤ b.b
  hi : a.P < b.b ∧ a.p < b.b ∧ a.B < b.b ∧ a.G < b.b
  hs : b.b ≤ S ∧ b.P ≠ S ∧ b.p ≠ S ∧ b.B ≠ S ∧ b.G ≠ S
theorem row_same' {w w' : World} {B e s n : Nat} {v : Value} {xs : List Value} (h : w.ownsRow B e s v n xs) (hb : ∀ g, v.ownBlock = some g → w'.heap[g]? = w.heap[g]?) : w'.ownsRow B e s v n xs := by
  refine ⟨h.1, ?_⟩
  rcases h.2 with hn | ⟨g, cap, cur, rfl, hB, hg, rest⟩
  · exact .inl hn
  · exact .inr ⟨g, cap, cur, rfl, hB, (hb g rfl).trans hg, rest⟩
section
variable {w w' : World} {base P p B G n c : Nat} {th : Nat → Bool} {vr_ : Nat → Int} {W : Nat → Nat → Value} {W2 : Nat → Nat → Int}
theorem ArAt.same (h : ArAt w base p B n c th vr_) (hs : w.heap.size ≤ w'.heap.size) (h1 : w'.heap[p]? = w.heap[p]?) (h2 : w'.heap[B]? = w.heap[B]?) : ArAt w' base p B n c th vr_ :=
  ⟨Nat.lt_of_lt_of_le h.pl hs, h.pb, (World.cell?_of_block (a := ⟨p, 0, none⟩) h1).trans h.fld, row_same' h.own (fun g hg => by simp [Value.ownBlock] at hg; rw [← hg]; exact h2), h.ne, h.le⟩
theorem NdAt.same (h : NdAt w base P p B G n c th vr_ W) (hs : w.heap.size ≤ w'.heap.size) (h0 : w'.heap[P]? = w.heap[P]?) (h1 : w'.heap[p]? = w.heap[p]?) (h2 : w'.heap[B]? = w.heap[B]?) (h3 : w'.heap[G]? = w.heap[G]?) : NdAt w' base P p B G n c th vr_ W :=
  ⟨Nat.lt_of_lt_of_le h.pl hs, h.pb, (World.cell?_of_block (a := ⟨P, 0, none⟩) h0).trans h.f0, (World.cell?_of_block (a := ⟨P, 1, none⟩) h0).trans h.f1, h.ar.same hs h1 h2, row_same' h.row (fun g hg => by simp [Value.ownBlock] at hg; rw [← hg]; exact h3), h.n1, h.n2, h.n3, h.n4⟩
theorem PgAt.same (h : PgAt w base P p B G n c th vr_ W2) (hs : w.heap.size ≤ w'.heap.size) (h0 : w'.heap[P]? = w.heap[P]?) (h1 : w'.heap[p]? = w.heap[p]?) (h2 : w'.heap[B]? = w.heap[B]?) (h3 : w'.heap[G]? = w.heap[G]?) : PgAt w' base P p B G n c th vr_ W2 :=
  ⟨Nat.lt_of_lt_of_le h.pl hs, h.pb, (World.cell?_of_block (a := ⟨P, 0, none⟩) h0).trans h.f0, (World.cell?_of_block (a := ⟨P, 1, none⟩) h0).trans h.f1, h.ar.same hs h1 h2, row_same' h.row (fun g hg => by simp [Value.ownBlock] at hg; rw [← hg]; exact h3), h.n1, h.n2, h.n3, h.n4⟩
end
section
variable {w w' : World} {S : Nat} {a b : Shp} {th th' : Nat → Bool} {vr_ vr' : Nat → Int} {W W' : Nat → Nat → Value} {th2 th2' : Nat → Bool} {vr2 vr2' : Nat → Int} {W2 W2' : Nat → Nat → Int}
theorem StAt.below (h : (StAt w S a b th vr_ W th2 vr2 W2)) (hb : Below w.heap.size w w') : (StAt w' S a b th vr_ W th2 vr2 W2) :=
  ⟨(hb.cell (p := ⟨S, 0, none⟩) h.sl).trans h.s0, (hb.cell (p := ⟨S, 1, none⟩) h.sl).trans h.s1, Nat.lt_of_lt_of_le h.sl hb.size, h.nd.below hb, h.pg.below hb, h.ab, h.hi, h.hs⟩
theorem StAt.node (h : (StAt w S a b th vr_ W th2 vr2 W2)) (hN : NdAt w' a.b a.P a.p a.B a.G a.n a.c th' vr' W') (hb : PBelow w w' a.B a.G) : StAt w' S a b th' vr' W' th2 vr2 W2 := by
  have hk : ∀ k, k < w.heap.size → b.b ≤ k → w'.heap[k]? = w.heap[k]? := fun k hk hbk => hb.2.2.2.2 k hk (by have := h.hi; omega) (by have := h.hi; omega)
  have hS := hk S h.sl h.hs.1
  refine ⟨(World.cell?_of_block (a := ⟨S, 0, none⟩) hS).trans h.s0, (World.cell?_of_block (a := ⟨S, 1, none⟩) hS).trans h.s1, Nat.lt_of_lt_of_le h.sl hb.2.2.2.1, hN, ?_, h.ab, h.hi, h.hs⟩
  exact h.pg.same hb.2.2.2.1 (hk _ h.pg.pl h.pg.pb) (hk _ h.pg.ar.pl h.pg.ar.pb) (hk _ h.pg.ar.lt.2 h.pg.ar.lt.1) (hk _ (h.pg.row.lt b.G rfl).2 (h.pg.row.lt b.G rfl).1)
theorem StAt.page (h : (StAt w S a b th vr_ W th2 vr2 W2)) (hP : PgAt w' b.b b.P b.p b.B b.G b.n b.c th2' vr2' W2') (hb : PBelow w w' b.B b.G) : StAt w' S a b th vr_ W th2' vr2' W2' := by
  have h1 := h.pg.ar.lt.1
  have h2 := (h.pg.row.lt b.G rfl).1
  have h3 := h.hs
  have h4 := h.hi
  have hS := hb.2.2.2.2 S h.sl (Ne.symm h3.2.2.2.1) (Ne.symm h3.2.2.2.2)
  have hk : ∀ k, k < w.heap.size → k < b.b → w'.heap[k]? = w.heap[k]? := fun k hk hbk => hb.2.2.2.2 k hk (by omega) (by omega)
  refine ⟨(World.cell?_of_block (a := ⟨S, 0, none⟩) hS).trans h.s0, (World.cell?_of_block (a := ⟨S, 1, none⟩) hS).trans h.s1, Nat.lt_of_lt_of_le h.sl hb.2.2.2.1, ?_, hP, h.ab, h.hi, h.hs⟩
  exact h.nd.same hb.2.2.2.1 (hk _ h.nd.pl h4.1) (hk _ h.nd.ar.pl h4.2.1) (hk _ h.nd.ar.lt.2 h4.2.2.1) (hk _ (h.nd.row.lt a.G rfl).2 h4.2.2.2)
end
theorem below_set5 {N b : Nat} {W0 w : World} (h : Below N W0 w) (hb : N ≤ b) (z0 z1 z2 z3 z4 : Int) :
    Below N W0 (((((w.setCell ⟨b, 0, none⟩ (.int .i64 z0)).setCell ⟨b, 1, none⟩ (.int .i64 z1)).setCell ⟨b, 2, none⟩ (.int .i64 z2)).setCell ⟨b, 3, none⟩ (.int .i64 z3)).setCell ⟨b, 4, none⟩ (.int .u32 z4)) :=
  ((((h.setCell hb _).setCell hb _).setCell hb _).setCell hb _).setCell hb _
set_option maxRecDepth 100000 in
theorem snew_ok (x y : Int) (n m : Nat) (hx : Hid (x = n)) (hy : Hid (y = m)) (h1 : 1 ≤ n) (h2 : n ≤ 256) (h3 : 1 ≤ m) (h4 : m ≤ 256) (w : World) :
    Calls Tryz.prog 125 #[.int .i64 x, .int .i64 y] w fun e w' => ∃ S a b, e = .returned (.tuple #[.pointer (some ⟨S, 0, none⟩), .nilIface]) ∧ StAt w' S a b (fun _ => false) (fun _ => 0) (fun _ b => zc b) (fun _ => false) (fun _ => 0) (fun _ _ => 0) ∧ Hid (a.n = n ∧ b.n = m ∧ a.b = w.heap.size) ∧ Below w.heap.size w w' := by
  go_enter Tryz.func125, Tryz.ntmps125
  go_wp2_with (first
    | (go_at_call 91; (with_reducible refine (nnew_ok x n hx h1 h2 _).mono ?_); rintro e w1 ⟨P, p, B, G, rfl, hP, hb⟩; have H1 := Lib.hid hP; have HB1 := Lib.hid hb; clear hP hb)
    | (go_at_call 95; (with_reducible refine (pnew_ok y m hy h3 h4 _).mono ?_); rintro e w2 ⟨P2, p2, B2, G2, rfl, hP, hb⟩; have H2 := Lib.hid hP; have HB2 := Lib.hid hb; clear hP hb))
  go_ret2
  have b1 := HB1.out.size
  have b2 := HB2.out.size
  have a1 := H1.out.pl
  have a2 := H1.out.ar.pl
  have a3 := H1.out.ar.lt.2
  have a4 := (H1.out.row.lt G rfl).2
  have c1 := H2.out.pl
  have c2 := H2.out.ar.pl
  have c3 := H2.out.ar.lt.2
  have c4 := (H2.out.row.lt G2 rfl).2
  refine ⟨_, ⟨w.heap.size, P, p, B, G, n, n⟩, ⟨w1.heap.size, P2, p2, B2, G2, m, m⟩, rfl, ⟨by simp, by simp, by simp, (H1.out.below HB2.out).below ((Below.refl _ _).alloc (Nat.le_refl _) _), H2.out.below ((Below.refl _ _).alloc (Nat.le_refl _) _), b1, by simp only; omega, by simp only; omega⟩, Lib.hid ⟨rfl, rfl, rfl⟩, ?_⟩
  exact (HB1.out.trans (HB2.out.mono b1)).alloc (by omega) _
set_option maxRecDepth 100000 in
theorem slive_is {S : Nat} {a b : Shp} {th : Nat → Bool} {vr_ : Nat → Int} {W : Nat → Nat → Value} {th2 : Nat → Bool} {vr2 : Nat → Int} {W2 : Nat → Nat → Int} (k0 k1 k2 k3 k4 : Int) (t : Bool) (ht : Hid ((if k0 = 2 then (thereB a.n th k1 && (vr_ k1.toNat == k2)) else if k0 = 3 then (thereB b.n th2 k1 && (vr2 k1.toNat == k2)) else false) = t)) (w : World) (h : (StAt w S a b th vr_ W th2 vr2 W2)) :
    Calls Tryz.prog 66 #[.pointer (some ⟨S, 0, none⟩), (Value.agg #[.int .i64 k0, .int .i64 k1, .int .i64 k2, .int .i64 k3, .int .u32 k4])] w fun e w' => e = .returned (.bool t) ∧ Below w.heap.size w w' := by
  have HD := Lib.hid (fun o => h.below ((((Below.refl _ _).alloc (Nat.le_refl _) _ : Below w.heap.size w (w.alloc o))).drew))
  clear h
  by_cases h2 : k0 = 2
  · obtain rfl := h2
    have HT : Hid ((thereB a.n th k1 && (vr_ k1.toNat == k2)) = t) := Lib.hid (by have := ht.out; rwa [if_pos rfl] at this)
    clear ht
    go_enter Tryz.func66, Tryz.ntmps66
    go_wp2_with fail
    go_region_held3 (fun w' => w'.cell? ⟨S, 0, none⟩ = some (.pointer (some ⟨a.P, 0, none⟩)) ∧ w'.cell? ⟨a.P, 0, none⟩ = some (.pointer (some ⟨a.p, 0, none⟩)) ∧ w'.cell? ⟨w.heap.size, 1, none⟩ = some (.int .i64 k1) ∧ w'.cell? ⟨w.heap.size, 2, none⟩ = some (.int .i64 k2)) (first | exact ⟨(HD.out _).s0, (HD.out _).nd.f0, by simp, by simp⟩ | assumption)
      (first | (go_at_call 67; (with_reducible refine (alive_is k1 k2 t HT _ (HD.out _).nd.ar).mono ?_); rintro e w1 ⟨rfl, rfl⟩))
    go_wp2_with fail
    go_ret
    exact ⟨rfl, ((Below.refl _ _).alloc (Nat.le_refl _) _ : Below w.heap.size w _).drew⟩
  · have t2 : (k0 == 2) = false := by simpa using h2
    by_cases h3 : k0 = 3
    · obtain rfl := h3
      have HT : Hid ((thereB b.n th2 k1 && (vr2 k1.toNat == k2)) = t) := Lib.hid (by have := ht.out; rwa [if_neg h2, if_pos rfl] at this)
      clear ht h2 t2
      go_enter Tryz.func66, Tryz.ntmps66
      go_wp2_with fail
      go_region_held3 (fun w' => w'.cell? ⟨S, 1, none⟩ = some (.pointer (some ⟨b.P, 0, none⟩)) ∧ w'.cell? ⟨b.P, 0, none⟩ = some (.pointer (some ⟨b.p, 0, none⟩)) ∧ w'.cell? ⟨w.heap.size, 1, none⟩ = some (.int .i64 k1) ∧ w'.cell? ⟨w.heap.size, 2, none⟩ = some (.int .i64 k2)) (first | exact ⟨(HD.out _).s1, (HD.out _).pg.f0, by simp, by simp⟩ | assumption)
        (first | (go_at_call 67; (with_reducible refine (alive_is k1 k2 t HT _ (HD.out _).pg.ar).mono ?_); rintro e w1 ⟨rfl, rfl⟩))
      go_wp2_with fail
      go_ret
      exact ⟨rfl, ((Below.refl _ _).alloc (Nat.le_refl _) _ : Below w.heap.size w _).drew⟩
    · have t3 : (k0 == 3) = false := by simpa using h3
      have HT : t = false := by have := ht.out; rw [if_neg h2, if_neg h3] at this; exact this.symm
      subst HT
      clear ht
      go_enter Tryz.func66, Tryz.ntmps66
      go_wp2_with fail
      go_ret
      exact ⟨rfl, (Below.refl _ _).alloc (Nat.le_refl _) _⟩
set_option maxHeartbeats 1000000 in
theorem spagekey_in {S : Nat} {a b : Shp} {th : Nat → Bool} {vr_ : Nat → Int} {W : Nat → Nat → Value} {th2 : Nat → Bool} {vr2 : Nat → Int} {W2 : Nat → Nat → Int} (x : Int) (k : Nat) (hx : Hid (x = k)) (hk : k < b.n) (ht : Hid (th2 k = true)) (v : Int) (hv : Hid (vr2 k = v)) (w : World) (h : (StAt w S a b th vr_ W th2 vr2 W2)) :
    Calls Tryz.prog 54 #[.pointer (some ⟨S, 0, none⟩), .int .i64 x] w fun e w' => e = .returned (.agg #[.int .i64 3, .int .i64 x, .int .i64 v, .int .i64 0, .int .u32 0]) ∧ Below w.heap.size w w' := by
  have H := Lib.hid (fun o => h.below ((Below.refl _ _).alloc (Nat.le_refl _) _ : Below w.heap.size w (w.alloc o)))
  have s1 : ∀ o, (w.alloc o).cell? ⟨S, 1, none⟩ = some (.pointer (some ⟨b.P, 0, none⟩)) := fun o => (H.out o).s1
  have f1 : ∀ o, (w.alloc o).cell? ⟨b.P, 0, none⟩ = some (.pointer (some ⟨b.p, 0, none⟩)) := fun o => (H.out o).pg.f0
  have hkx := hx.out
  subst hkx
  clear h
  go_enter Tryz.func54, Tryz.ntmps54
  go_wp2_with (first
    | (go_at_call 63; (with_reducible refine (athere_in k hk true ht _ (H.out _).pg.ar).mono ?_); rintro e w1 ⟨rfl, rfl⟩)
    | (go_at_call 58; (with_reducible refine (aver_in k hk v hv _ (H.out _).pg.ar).mono ?_); rintro e w1 ⟨rfl, rfl⟩))
  refine bodyPost_ret (v := .agg #[.int .i64 3, .int .i64 (k : Int), .int .i64 v, .int .i64 0, .int .u32 0]) (by simp [results, Tryz.results54, go_sem]) rfl ⟨rfl, ?_⟩
  exact (Below.refl _ _).alloc (Nat.le_refl _) _
set_option maxHeartbeats 1000000 in
theorem snodekey_in {S : Nat} {a b : Shp} {th : Nat → Bool} {vr_ : Nat → Int} {W : Nat → Nat → Value} {th2 : Nat → Bool} {vr2 : Nat → Int} {W2 : Nat → Nat → Int} (x y : Int) (k : Nat) (hx : Hid (x = k)) (hy0 : 0 ≤ y) (hy : y ≤ 4) (hk : k < a.n) (ht : Hid (th k = true)) (v : Int) (hv : Hid (vr_ k = v)) (w : World) (h : (StAt w S a b th vr_ W th2 vr2 W2)) :
    Calls Tryz.prog 53 #[.pointer (some ⟨S, 0, none⟩), .int .i64 x, .int .i64 y] w fun e w' => e = .returned (.agg #[.int .i64 2, .int .i64 x, .int .i64 v, .int .i64 0, .int .u32 y]) ∧ Below w.heap.size w w' := by
  have H := Lib.hid (fun o => h.below ((Below.refl _ _).alloc (Nat.le_refl _) _ : Below w.heap.size w (w.alloc o)))
  have s0 : ∀ o, (w.alloc o).cell? ⟨S, 0, none⟩ = some (.pointer (some ⟨a.P, 0, none⟩)) := fun o => (H.out o).s0
  have f0 : ∀ o, (w.alloc o).cell? ⟨a.P, 0, none⟩ = some (.pointer (some ⟨a.p, 0, none⟩)) := fun o => (H.out o).nd.f0
  have hkx := hx.out
  have hw : IntKind.u32.wrap y = y := by rw [IntKind.wrap_u32]; omega
  have d0 : decide (y < 0) = false := decide_eq_false (by omega)
  have d1 : decide (4 < y) = false := decide_eq_false (by omega)
  subst hkx
  clear h
  go_enter Tryz.func53, Tryz.ntmps53
  go_wp2_with (first
    | (go_at_call 63; (with_reducible refine (athere_in k hk true ht _ (H.out _).nd.ar).mono ?_); rintro e w1 ⟨rfl, rfl⟩)
    | (go_at_call 58; (with_reducible refine (aver_in k hk v hv _ (H.out _).nd.ar).mono ?_); rintro e w1 ⟨rfl, rfl⟩))
  refine bodyPost_ret (v := .agg #[.int .i64 2, .int .i64 (k : Int), .int .i64 v, .int .i64 0, .int .u32 y]) (by simp [results, Tryz.results53, go_sem]) rfl ⟨rfl, ?_⟩
  exact (Below.refl _ _).alloc (Nat.le_refl _) _
end Go.Proofs.YtncopdhhchmpeaaGreatDoor
namespace Go.Proofs.YtncopdhhchmpeaaGreatDoor
open Go.ChangeShapes Go.WideShapes Go.ChangeAt Go.RowKit
set_option linter.unusedVariables false
theorem ismem_yes (k0 k1 k2 k3 k4 : Int) (h : k0 = 2 ∨ k0 = 3) (w : World) :
    Calls Tryz.prog 194 #[(Value.agg #[.int .i64 k0, .int .i64 k1, .int .i64 k2, .int .i64 k3, .int .u32 k4])] w fun e w' => e = .returned (.bool true) ∧ Below w.heap.size w w' := by
  rcases h with rfl | rfl
  all_goals
    go_enter Tryz.func194, Tryz.ntmps194
    go_wp2
    go_ret
    exact ⟨rfl, (Below.refl _ _).alloc (Nat.le_refl _) _⟩
theorem ismem_no (k0 k1 k2 k3 k4 : Int) (h2 : ¬ k0 = 2) (h3 : ¬ k0 = 3) (w : World) :
    Calls Tryz.prog 194 #[(Value.agg #[.int .i64 k0, .int .i64 k1, .int .i64 k2, .int .i64 k3, .int .u32 k4])] w fun e w' => e = .returned (.bool false) ∧ Below w.heap.size w w' := by
  have e2 : (k0 == 2) = false := by simpa using h2
  have e3 : (k0 == 3) = false := by simpa using h3
  go_enter Tryz.func194, Tryz.ntmps194
  go_wp2
  go_ret
  exact ⟨rfl, (Below.refl _ _).alloc (Nat.le_refl _) _⟩
theorem writes_no (k0 k1 k2 k3 k4 : Int) (h2 : ¬ k0 = 2) (h3 : ¬ k0 = 3) (w : World) :
    Calls Tryz.prog 165 #[(Value.agg #[.int .i64 k0, .int .i64 k1, .int .i64 k2, .int .i64 k3, .int .u32 k4])] w fun e w' => e = .returned (.bool false) ∧ Below w.heap.size w w' := by
  go_enter Tryz.func165, Tryz.ntmps165
  go_wp2_with (first | (go_at_call 194; refine (ismem_no _ _ _ _ _ h2 h3 _).mono ?_; rintro e w' ⟨rfl, hb⟩))
  go_ret
  exact ⟨rfl, Below.trans ((Below.refl _ _).alloc (Nat.le_refl _) _) (hb.mono (by simp))⟩
theorem writes_mem (k0 k1 k2 k3 k4 : Int) (h : k0 = 2 ∨ k0 = 3) (w : World) :
    Calls Tryz.prog 165 #[(Value.agg #[.int .i64 k0, .int .i64 k1, .int .i64 k2, .int .i64 k3, .int .u32 k4])] w fun e w' => e = .returned (.bool (bits BinOp.and IntKind.i64 k3 5 == 0)) ∧ Below w.heap.size w w' := by
  go_enter Tryz.func165, Tryz.ntmps165
  go_wp2_with (first | (go_at_call 194; refine (ismem_yes _ _ _ _ _ h _).mono ?_; rintro e w' ⟨rfl, hb⟩; have hc := (bcell hb).1))
  go_ret
  exact ⟨rfl, Below.trans ((Below.refl _ _).alloc (Nat.le_refl _) _) (hb.mono (by simp))⟩
theorem through_weak (r : Int) (k0 k1 k2 k3 k4 : Int) (r0 r1 r2 r3 r4 : Int) (hr : (bits BinOp.and IntKind.i64 r 4 == 0) = false) (h : Hid (Wk [k0, k1, k2, k3, k4] [r0, r1, r2, r3, r4])) (w : World) :
    Calls Tryz.prog 174 #[.int .i64 r, (Value.agg #[.int .i64 k0, .int .i64 k1, .int .i64 k2, .int .i64 k3, .int .u32 k4])] w fun e w' => e = .returned (Value.agg #[.int .i64 r0, .int .i64 r1, .int .i64 r2, .int .i64 r3, .int .u32 r4]) ∧ Below w.heap.size w w' := by
  go_enter Tryz.func174, Tryz.ntmps174
  go_wp2_with (first | (go_at_call 166; refine (weaken_any _ _ _ _ _ _ _ _ _ _ h _).mono ?_; rintro e w' ⟨rfl, hb⟩; have hc := (bcell hb).1; have hf := (bcell hb).2; have hz := hb.size))
  refine bodyPost_ret (v := (Value.agg #[.int .i64 r0, .int .i64 r1, .int .i64 r2, .int .i64 r3, .int .u32 r4])) (by simp [results, Tryz.results174, go_sem, hc]) rfl ⟨rfl, ?_⟩
  exact (((((Below.trans (((Below.refl _ _).alloc (Nat.le_refl _) _).alloc (by simp) _) (hb.mono (by simp; omega))).setCell (by simp) _).setCell (by simp) _).setCell (by simp) _).setCell (by simp) _).setCell (by simp) _
theorem through_same (r : Int) (k0 k1 k2 k3 k4 : Int) (hr : (bits BinOp.and IntKind.i64 r 4 == 0) = true) (w : World) :
    Calls Tryz.prog 174 #[.int .i64 r, (Value.agg #[.int .i64 k0, .int .i64 k1, .int .i64 k2, .int .i64 k3, .int .u32 k4])] w fun e w' => e = .returned (Value.agg #[.int .i64 k0, .int .i64 k1, .int .i64 k2, .int .i64 k3, .int .u32 k4]) ∧ Below w.heap.size w w' := by
  go_enter Tryz.func174, Tryz.ntmps174
  go_wp2
  refine bodyPost_ret (v := .agg #[.int .i64 k0, .int .i64 k1, .int .i64 k2, .int .i64 k3, .int .u32 k4]) (by simp [results, Tryz.results174, go_sem]) rfl ⟨rfl, ((Below.refl _ _).alloc (Nat.le_refl _) _).alloc (by simp) _⟩
theorem same_is (a0 a1 a2 a3 a4 : Int) (b0 b1 b2 b3 b4 : Int) (t : Bool) (h : Hid (sameB a0 a1 a2 a3 a4 b0 b1 b2 b3 b4 = t)) (w : World) :
    Calls Tryz.prog 22 #[(Value.agg #[.int .i64 a0, .int .i64 a1, .int .i64 a2, .int .i64 a3, .int .u32 a4]), (Value.agg #[.int .i64 b0, .int .i64 b1, .int .i64 b2, .int .i64 b3, .int .u32 b4])] w fun e w' => e = .returned (.bool t) ∧ Below w.heap.size w w' := by
  rw [← h.out]; exact samekey_any a0 a1 a2 a3 a4 b0 b1 b2 b3 b4 w
theorem same_self (a0 a1 a2 a3 a4 : Int) : Hid (sameB a0 a1 a2 a3 a4 a0 a1 a2 a3 a4 = true) := Lib.hid (by simp [sameB])
end Go.Proofs.YtncopdhhchmpeaaGreatDoor
namespace Go.Proofs.YtncopdhhchmpeaaGreatDoor
open Go.ChangeShapes Go.WideShapes Go.ChangeAt Go.RowKit
set_option linter.unusedVariables false
/-- Is the object there that a key names? -/
def liveB (a b : Shp) (th : Nat → Bool) (vr_ : Nat → Int) (th2 : Nat → Bool) (vr2 : Nat → Int) (k0 k1 k2 : Int) : Bool := if k0 = 2 then (thereB a.n th k1 && (vr_ k1.toNat == k2)) else if k0 = 3 then (thereB b.n th2 k1 && (vr2 k1.toNat == k2)) else false
theorem slive_at {S : Nat} {a b : Shp} {th : Nat → Bool} {vr_ : Nat → Int} {W : Nat → Nat → Value} {th2 : Nat → Bool} {vr2 : Nat → Int} {W2 : Nat → Nat → Int} (k0 k1 k2 k3 k4 : Int) (t : Bool) (ht : Hid (liveB a b th vr_ th2 vr2 k0 k1 k2 = t)) (w : World) (h : (StAt w S a b th vr_ W th2 vr2 W2)) :
    Calls Tryz.prog 66 #[.pointer (some ⟨S, 0, none⟩), (Value.agg #[.int .i64 k0, .int .i64 k1, .int .i64 k2, .int .i64 k3, .int .u32 k4])] w fun e w' => e = .returned (.bool t) ∧ Below w.heap.size w w' := slive_is k0 k1 k2 k3 k4 t (Lib.hid ht.out) w h
theorem sread_none {S : Nat} {a b : Shp} {th : Nat → Bool} {vr_ : Nat → Int} {W : Nat → Nat → Value} {th2 : Nat → Bool} {vr2 : Nat → Int} {W2 : Nat → Nat → Int} (k0 k1 k2 k3 k4 : Int) (ht : Hid (liveB a b th vr_ th2 vr2 k0 k1 k2 = false)) (z : Addr) (w : World) (h : (StAt w S a b th vr_ W th2 vr2 W2)) (hE : w.cell? ⟨0, 0, none⟩ = some (eV z)) (hl : 0 < w.heap.size) :
    Calls Tryz.prog 172 #[.pointer (some ⟨S, 0, none⟩), (Value.agg #[.int .i64 k0, .int .i64 k1, .int .i64 k2, .int .i64 k3, .int .u32 k4]), .int .i64 k0] w fun e w' => e = .returned (eV z) ∧ Below w.heap.size w w' := by
  have H := Lib.hid (h.below ((Below.refl _ _).alloc (Nat.le_refl _) _ : Below w.heap.size w (w.alloc (.cells #[.int .i64 k0, .int .i64 k1, .int .i64 k2, .int .i64 k3, .int .u32 k4] 42))))
  have HE := Lib.hid hE
  have HL := Lib.hid hl
  clear h hE hl
  go_enter Tryz.func172, Tryz.ntmps172
  go_wp2_with (first
    | (go_at_call 66; (with_reducible refine (slive_at k0 k1 k2 k3 k4 false ht _ H.out).mono ?_); rintro e w1 ⟨rfl, hb⟩; have HB := Lib.hid (((Below.refl _ _).alloc (Nat.le_refl _) _ : Below w.heap.size w _).trans (hb.mono (by simp))); have e1 := (HB.out.cell (p := ⟨0, 0, none⟩) HL.out).trans HE.out; clear hb))
  go_ret
  exact ⟨rfl, HB.out⟩
theorem sread_ok {S : Nat} {a b : Shp} {th : Nat → Bool} {vr_ : Nat → Int} {W : Nat → Nat → Value} {th2 : Nat → Bool} {vr2 : Nat → Int} {W2 : Nat → Nat → Int} (k0 k1 k2 k3 k4 : Int) (ht : Hid (liveB a b th vr_ th2 vr2 k0 k1 k2 = true)) (hb : bits BinOp.and IntKind.i64 k3 2 = 0) (w : World) (h : (StAt w S a b th vr_ W th2 vr2 W2)) :
    Calls Tryz.prog 172 #[.pointer (some ⟨S, 0, none⟩), (Value.agg #[.int .i64 k0, .int .i64 k1, .int .i64 k2, .int .i64 k3, .int .u32 k4]), .int .i64 k0] w fun e w' => e = .returned .nilIface ∧ Below w.heap.size w w' := by
  have H := Lib.hid (h.below ((Below.refl _ _).alloc (Nat.le_refl _) _ : Below w.heap.size w (w.alloc (.cells #[.int .i64 k0, .int .i64 k1, .int .i64 k2, .int .i64 k3, .int .u32 k4] 42))))
  clear h
  go_enter Tryz.func172, Tryz.ntmps172
  go_wp2_with (first
    | (go_at_call 66; (with_reducible refine (slive_at k0 k1 k2 k3 k4 true ht _ H.out).mono ?_); rintro e w1 ⟨rfl, hb⟩; have HB := Lib.hid (((Below.refl _ _).alloc (Nat.le_refl _) _ : Below w.heap.size w _).trans (hb.mono (by simp))); have e3 := hb.cell (p := ⟨w.heap.size, 3, none⟩) (by simp); simp at e3; clear hb))
  go_ret
  exact ⟨rfl, HB.out⟩
theorem new1 (X : World) (cs : Array Value) (T : TypeId) (j : Nat) : (X.alloc (.cells cs T (0, 0))).cell? ⟨X.heap.size, j, none⟩ = cs[j]? ∧ (X.alloc (.cells cs T (0, 0))).frozen? ⟨X.heap.size, j, none⟩ = false ∧ X.heap.size < (X.alloc (.cells cs T (0, 0))).heap.size := ⟨by simp, by simp, by simp⟩
theorem new3 (w : World) (o o' : Obj) (cs : Array Value) (T : TypeId) (j : Nat) : (((w.alloc o).alloc o').alloc (.cells cs T (0, 0))).cell? ⟨w.heap.size + 1 + 1, j, none⟩ = cs[j]? ∧ (((w.alloc o).alloc o').alloc (.cells cs T (0, 0))).frozen? ⟨w.heap.size + 1 + 1, j, none⟩ = false ∧ w.heap.size + 1 + 1 < (((w.alloc o).alloc o').alloc (.cells cs T (0, 0))).heap.size := by
  have e : w.heap.size + 1 + 1 = ((w.alloc o).alloc o').heap.size := by simp
  have h := new1 ((w.alloc o).alloc o') cs T j
  rw [← e] at h
  exact h
theorem kcell5 {W : World} {b : Nat} (z0 z1 z2 z3 z4 : Int) (c0 : ∃ v, W.cell? ⟨b, 0, none⟩ = some v) (c1 : ∃ v, W.cell? ⟨b, 1, none⟩ = some v) (c2 : ∃ v, W.cell? ⟨b, 2, none⟩ = some v) (c3 : ∃ v, W.cell? ⟨b, 3, none⟩ = some v) (c4 : ∃ v, W.cell? ⟨b, 4, none⟩ = some v) :
    let X := (((((W.setCell ⟨b, 0, none⟩ (.int .i64 z0)).setCell ⟨b, 1, none⟩ (.int .i64 z1)).setCell ⟨b, 2, none⟩ (.int .i64 z2)).setCell ⟨b, 3, none⟩ (.int .i64 z3)).setCell ⟨b, 4, none⟩ (.int .u32 z4))
    X.cell? ⟨b, 0, none⟩ = some (.int .i64 z0) ∧ X.cell? ⟨b, 1, none⟩ = some (.int .i64 z1) ∧ X.cell? ⟨b, 2, none⟩ = some (.int .i64 z2) ∧ X.cell? ⟨b, 3, none⟩ = some (.int .i64 z3) ∧ X.cell? ⟨b, 4, none⟩ = some (.int .u32 z4) := by
  have hs : ∀ j, j < (k5 z0 z1 z2 z3 z4).length → (W.cell? ⟨b, 0 + j, none⟩).isSome = true := by
    intro j hj
    rw [Nat.zero_add]
    rcases five j hj with rfl | rfl | rfl | rfl | rfl
    · obtain ⟨v, h⟩ := c0; rw [h]; rfl
    · obtain ⟨v, h⟩ := c1; rw [h]; rfl
    · obtain ⟨v, h⟩ := c2; rw [h]; rfl
    · obtain ⟨v, h⟩ := c3; rw [h]; rfl
    · obtain ⟨v, h⟩ := c4; rw [h]; rfl
  have all := World.cell?_setCells_in b (k5 z0 z1 z2 z3 z4) 0 W hs
  exact ⟨all 0 (by simp [k5]), all 1 (by simp [k5]), all 2 (by simp [k5]), all 3 (by simp [k5]), all 4 (by simp [k5])⟩
theorem swrite_none {S : Nat} {a b : Shp} {th : Nat → Bool} {vr_ : Nat → Int} {W : Nat → Nat → Value} {th2 : Nat → Bool} {vr2 : Nat → Int} {W2 : Nat → Nat → Int} (k0 k1 k2 k3 k4 : Int) (ht : Hid (liveB a b th vr_ th2 vr2 k0 k1 k2 = false)) (z : Addr) (w : World) (h : (StAt w S a b th vr_ W th2 vr2 W2)) (hE : w.cell? ⟨0, 0, none⟩ = some (eV z)) (hl : 0 < w.heap.size) :
    Calls Tryz.prog 179 #[.pointer (some ⟨S, 0, none⟩), (Value.agg #[.int .i64 k0, .int .i64 k1, .int .i64 k2, .int .i64 k3, .int .u32 k4]), .int .i64 k0] w fun e w' => e = .returned (eV z) ∧ Below w.heap.size w w' := by
  have hb1 : Below w.heap.size w (w.alloc (.cells #[.int .i64 k0, .int .i64 k1, .int .i64 k2, .int .i64 k3, .int .u32 k4] 42)) := (Below.refl _ _).alloc (Nat.le_refl _) _
  have H := Lib.hid (h.below hb1)
  have HE := Lib.hid ((hb1.cell (p := ⟨0, 0, none⟩) hl).trans hE)
  have HL := Lib.hid (Nat.lt_of_lt_of_le hl hb1.size)
  clear h hE hl hb1
  go_enter Tryz.func179, Tryz.ntmps179
  go_wp2_with (first
    | (go_at_call 172; (with_reducible refine (sread_none k0 k1 k2 k3 k4 ht z _ H.out HE.out HL.out).mono ?_); rintro e w1 ⟨rfl, hb⟩; have HB := Lib.hid (((Below.refl _ _).alloc (Nat.le_refl _) _ : Below w.heap.size w _).trans (hb.mono (by simp))); clear hb))
  go_ret
  exact ⟨rfl, HB.out⟩
set_option maxHeartbeats 1000000 in
theorem sfetch_none {S : Nat} {a b : Shp} {th : Nat → Bool} {vr_ : Nat → Int} {W : Nat → Nat → Value} {th2 : Nat → Bool} {vr2 : Nat → Int} {W2 : Nat → Nat → Int} (k1 k2 k3 k4 s : Int) (ht : Hid (liveB a b th vr_ th2 vr2 2 k1 k2 = false)) (z : Addr) (w : World) (h : (StAt w S a b th vr_ W th2 vr2 W2)) (hE : w.cell? ⟨0, 0, none⟩ = some (eV z)) (hl : 0 < w.heap.size) :
    Calls Tryz.prog 134 #[.pointer (some ⟨S, 0, none⟩), .agg #[.int .i64 2, .int .i64 k1, .int .i64 k2, .int .i64 k3, .int .u32 k4], .int .i64 s] w fun e w' => e = .returned (.tuple #[.agg #[.int .i64 0, .int .i64 0, .int .i64 0, .int .i64 0, .int .u32 0], eV z]) ∧ Below w.heap.size w w' := by
  have hb1 : ∀ o o', Below w.heap.size w ((w.alloc o).alloc o') := fun o o' => ((Below.refl _ _).alloc (Nat.le_refl _) _ : Below w.heap.size w (w.alloc o)).alloc (by simp) o'
  have H := Lib.hid (fun o o' => h.below (hb1 o o'))
  have HE := Lib.hid (fun o o' => ((hb1 o o').cell (p := ⟨0, 0, none⟩) hl).trans hE)
  have HL := Lib.hid (fun o o' => Nat.lt_of_lt_of_le hl (hb1 o o').size)
  have HB1 := Lib.hid hb1
  clear h hE hl hb1
  go_enter Tryz.func134, Tryz.ntmps134
  go_wp2_with (first
    | (go_at_call 172; (with_reducible refine (sread_none 2 k1 k2 k3 k4 ht z _ (H.out _ _) (HE.out _ _) (HL.out _ _)).mono ?_); rintro e w1 ⟨rfl, hb⟩; have HB := Lib.hid ((HB1.out _ _).trans (hb.mono (by simp; omega))); have c0 := hb.cell (p := ⟨w.heap.size + 1, 0, none⟩) (by simp); have c1 := hb.cell (p := ⟨w.heap.size + 1, 1, none⟩) (by simp); have c2 := hb.cell (p := ⟨w.heap.size + 1, 2, none⟩) (by simp); have c3 := hb.cell (p := ⟨w.heap.size + 1, 3, none⟩) (by simp); have c4 := hb.cell (p := ⟨w.heap.size + 1, 4, none⟩) (by simp); have z0 := hb.frozen (p := ⟨w.heap.size + 1, 0, none⟩) (by simp); have z1 := hb.frozen (p := ⟨w.heap.size + 1, 1, none⟩) (by simp); have z2 := hb.frozen (p := ⟨w.heap.size + 1, 2, none⟩) (by simp); have z3 := hb.frozen (p := ⟨w.heap.size + 1, 3, none⟩) (by simp); have z4 := hb.frozen (p := ⟨w.heap.size + 1, 4, none⟩) (by simp); simp at c0 c1 c2 c3 c4 z0 z1 z2 z3 z4; clear hb))
  have hX := kcell5 (W := w1) (b := w.heap.size + 1) 0 0 0 0 0 ⟨_, c0⟩ ⟨_, c1⟩ ⟨_, c2⟩ ⟨_, c3⟩ ⟨_, c4⟩
  obtain ⟨d0, d1, d2, d3, d4⟩ := hX
  refine bodyPost_ret (v := .tuple #[.agg #[.int .i64 0, .int .i64 0, .int .i64 0, .int .i64 0, .int .u32 0], eV z]) (by simp [results, Tryz.results134, go_sem, d0, d1, d2, d3, d4]) rfl ⟨rfl, below_set5 HB.out (by omega) _ _ _ _ _⟩
set_option maxHeartbeats 1000000 in
theorem sswap_none {S : Nat} {a b : Shp} {th : Nat → Bool} {vr_ : Nat → Int} {W : Nat → Nat → Value} {th2 : Nat → Bool} {vr2 : Nat → Int} {W2 : Nat → Nat → Int} (k1 k2 k3 k4 s x0 x1 x2 x3 x4 : Int) (ht : Hid (liveB a b th vr_ th2 vr2 2 k1 k2 = false)) (z : Addr) (w : World) (h : (StAt w S a b th vr_ W th2 vr2 W2)) (hE : w.cell? ⟨0, 0, none⟩ = some (eV z)) (hl : 0 < w.heap.size) :
    Calls Tryz.prog 175 #[.pointer (some ⟨S, 0, none⟩), .agg #[.int .i64 2, .int .i64 k1, .int .i64 k2, .int .i64 k3, .int .u32 k4], .int .i64 s, (Value.agg #[.int .i64 x0, .int .i64 x1, .int .i64 x2, .int .i64 x3, .int .u32 x4])] w fun e w' => e = .returned (.tuple #[.agg #[.int .i64 0, .int .i64 0, .int .i64 0, .int .i64 0, .int .u32 0], eV z]) ∧ Below w.heap.size w w' := by
  have hb1 : ∀ o o' o2, Below w.heap.size w (((w.alloc o).alloc o').alloc o2) := fun o o' o2 => (((Below.refl _ _).alloc (Nat.le_refl _) _ : Below w.heap.size w (w.alloc o)).alloc (by simp) o').alloc (by simp; omega) o2
  have H := Lib.hid (fun o o' o2 => h.below (hb1 o o' o2))
  have HE := Lib.hid (fun o o' o2 => ((hb1 o o' o2).cell (p := ⟨0, 0, none⟩) hl).trans hE)
  have HL := Lib.hid (fun o o' o2 => Nat.lt_of_lt_of_le hl (hb1 o o' o2).size)
  have HB1 := Lib.hid hb1
  clear h hE hl hb1
  go_enter Tryz.func175, Tryz.ntmps175
  go_wp2_with (first
    | (go_at_call 179; (with_reducible refine (swrite_none 2 k1 k2 k3 k4 ht z _ (H.out _ _ _) (HE.out _ _ _) (HL.out _ _ _)).mono ?_); rintro e w1 ⟨rfl, hb⟩; have HB := Lib.hid ((HB1.out _ _ _).trans (hb.mono (HB1.out _ _ _).size)); have c0 := (hb.cell (p := ⟨w.heap.size + 1 + 1, 0, none⟩) (new3 w _ _ _ _ 0).2.2).trans (new3 w _ _ _ _ 0).1; have c1 := (hb.cell (p := ⟨w.heap.size + 1 + 1, 1, none⟩) (new3 w _ _ _ _ 1).2.2).trans (new3 w _ _ _ _ 1).1; have c2 := (hb.cell (p := ⟨w.heap.size + 1 + 1, 2, none⟩) (new3 w _ _ _ _ 2).2.2).trans (new3 w _ _ _ _ 2).1; have c3 := (hb.cell (p := ⟨w.heap.size + 1 + 1, 3, none⟩) (new3 w _ _ _ _ 3).2.2).trans (new3 w _ _ _ _ 3).1; have c4 := (hb.cell (p := ⟨w.heap.size + 1 + 1, 4, none⟩) (new3 w _ _ _ _ 4).2.2).trans (new3 w _ _ _ _ 4).1; have z0 := (hb.frozen (p := ⟨w.heap.size + 1 + 1, 0, none⟩) (new3 w _ _ _ _ 0).2.2).trans (new3 w _ _ _ _ 0).2.1; have z1 := (hb.frozen (p := ⟨w.heap.size + 1 + 1, 1, none⟩) (new3 w _ _ _ _ 1).2.2).trans (new3 w _ _ _ _ 1).2.1; have z2 := (hb.frozen (p := ⟨w.heap.size + 1 + 1, 2, none⟩) (new3 w _ _ _ _ 2).2.2).trans (new3 w _ _ _ _ 2).2.1; have z3 := (hb.frozen (p := ⟨w.heap.size + 1 + 1, 3, none⟩) (new3 w _ _ _ _ 3).2.2).trans (new3 w _ _ _ _ 3).2.1; have z4 := (hb.frozen (p := ⟨w.heap.size + 1 + 1, 4, none⟩) (new3 w _ _ _ _ 4).2.2).trans (new3 w _ _ _ _ 4).2.1; simp at c0 c1 c2 c3 c4; clear hb))
  have hX := kcell5 (W := w1) (b := w.heap.size + 1 + 1) 0 0 0 0 0 ⟨_, c0⟩ ⟨_, c1⟩ ⟨_, c2⟩ ⟨_, c3⟩ ⟨_, c4⟩
  obtain ⟨d0, d1, d2, d3, d4⟩ := hX
  refine bodyPost_ret (v := .tuple #[.agg #[.int .i64 0, .int .i64 0, .int .i64 0, .int .i64 0, .int .u32 0], eV z]) (by simp [results, Tryz.results175, go_sem, d0, d1, d2, d3, d4]) rfl ⟨rfl, below_set5 HB.out (by omega) _ _ _ _ _⟩
theorem speek_none {S : Nat} {a b : Shp} {th : Nat → Bool} {vr_ : Nat → Int} {W : Nat → Nat → Value} {th2 : Nat → Bool} {vr2 : Nat → Int} {W2 : Nat → Nat → Int} (k1 k2 k3 k4 s : Int) (ht : Hid (liveB a b th vr_ th2 vr2 3 k1 k2 = false)) (z : Addr) (w : World) (h : (StAt w S a b th vr_ W th2 vr2 W2)) (hE : w.cell? ⟨0, 0, none⟩ = some (eV z)) (hl : 0 < w.heap.size) :
    Calls Tryz.prog 142 #[.pointer (some ⟨S, 0, none⟩), .agg #[.int .i64 3, .int .i64 k1, .int .i64 k2, .int .i64 k3, .int .u32 k4], .int .i64 s] w fun e w' => e = .returned (.tuple #[.int .u32 0, eV z]) ∧ Below w.heap.size w w' := by
  have hb1 : ∀ o, Below w.heap.size w (w.alloc o) := fun o => (Below.refl _ _).alloc (Nat.le_refl _) _
  have H := Lib.hid (fun o => h.below (hb1 o))
  have HE := Lib.hid (fun o => ((hb1 o).cell (p := ⟨0, 0, none⟩) hl).trans hE)
  have HL := Lib.hid (fun o => Nat.lt_of_lt_of_le hl (hb1 o).size)
  have HB1 := Lib.hid hb1
  clear h hE hl hb1
  go_enter Tryz.func142, Tryz.ntmps142
  go_wp2_with (first
    | (go_at_call 172; (with_reducible refine (sread_none 3 k1 k2 k3 k4 ht z _ (H.out _) (HE.out _) (HL.out _)).mono ?_); rintro e w1 ⟨rfl, hb⟩; have HB := Lib.hid ((HB1.out _).trans (hb.mono (by simp))); clear hb))
  go_ret2
  exact ⟨rfl, HB.out⟩
theorem spoke_none {S : Nat} {a b : Shp} {th : Nat → Bool} {vr_ : Nat → Int} {W : Nat → Nat → Value} {th2 : Nat → Bool} {vr2 : Nat → Int} {W2 : Nat → Nat → Int} (k1 k2 k3 k4 s x : Int) (ht : Hid (liveB a b th vr_ th2 vr2 3 k1 k2 = false)) (z : Addr) (w : World) (h : (StAt w S a b th vr_ W th2 vr2 W2)) (hE : w.cell? ⟨0, 0, none⟩ = some (eV z)) (hl : 0 < w.heap.size) :
    Calls Tryz.prog 143 #[.pointer (some ⟨S, 0, none⟩), .agg #[.int .i64 3, .int .i64 k1, .int .i64 k2, .int .i64 k3, .int .u32 k4], .int .i64 s, .int .u32 x] w fun e w' => e = .returned (eV z) ∧ Below w.heap.size w w' := by
  have hb1 : ∀ o, Below w.heap.size w (w.alloc o) := fun o => (Below.refl _ _).alloc (Nat.le_refl _) _
  have H := Lib.hid (fun o => h.below (hb1 o))
  have HE := Lib.hid (fun o => ((hb1 o).cell (p := ⟨0, 0, none⟩) hl).trans hE)
  have HL := Lib.hid (fun o => Nat.lt_of_lt_of_le hl (hb1 o).size)
  have HB1 := Lib.hid hb1
  clear h hE hl hb1
  go_enter Tryz.func143, Tryz.ntmps143
  go_wp2_with (first
    | (go_at_call 179; (with_reducible refine (swrite_none 3 k1 k2 k3 k4 ht z _ (H.out _) (HE.out _) (HL.out _)).mono ?_); rintro e w1 ⟨rfl, hb⟩; have HB := Lib.hid ((HB1.out _).trans (hb.mono (by simp))); clear hb))
  go_ret
  exact ⟨rfl, HB.out⟩
theorem swrite_right {S : Nat} {a b : Shp} {th : Nat → Bool} {vr_ : Nat → Int} {W : Nat → Nat → Value} {th2 : Nat → Bool} {vr2 : Nat → Int} {W2 : Nat → Nat → Int} (k0 k1 k2 k3 k4 : Int) (hm : k0 = 2 ∨ k0 = 3) (ht : Hid (liveB a b th vr_ th2 vr2 k0 k1 k2 = true)) (hb0 : bits BinOp.and IntKind.i64 k3 2 = 0) (hb5 : (bits BinOp.and IntKind.i64 k3 5 == 0) = false) (z : Addr) (w : World) (h : (StAt w S a b th vr_ W th2 vr2 W2)) (hE : w.cell? ⟨8, 0, none⟩ = some (eV z)) (hl : 8 < w.heap.size) :
    Calls Tryz.prog 179 #[.pointer (some ⟨S, 0, none⟩), (Value.agg #[.int .i64 k0, .int .i64 k1, .int .i64 k2, .int .i64 k3, .int .u32 k4]), .int .i64 k0] w fun e w' => e = .returned (eV z) ∧ Below w.heap.size w w' := by
  have hb1 : Below w.heap.size w (w.alloc (.cells #[.int .i64 k0, .int .i64 k1, .int .i64 k2, .int .i64 k3, .int .u32 k4] 42)) := (Below.refl _ _).alloc (Nat.le_refl _) _
  have H := Lib.hid (h.below hb1)
  have HE := Lib.hid ((hb1.cell (p := ⟨8, 0, none⟩) hl).trans hE)
  have HL := Lib.hid (Nat.lt_of_lt_of_le hl hb1.size)
  have HM := Lib.hid hm
  clear h hE hl hb1 hm
  go_enter Tryz.func179, Tryz.ntmps179
  go_wp2_with (first
    | (go_at_call 172; (with_reducible refine (sread_ok k0 k1 k2 k3 k4 ht hb0 _ H.out).mono ?_); rintro e w1 ⟨rfl, hb⟩; have HB := Lib.hid (((Below.refl _ _).alloc (Nat.le_refl _) _ : Below w.heap.size w _).trans (hb.mono (by simp))); have c0 := hb.cell (p := ⟨w.heap.size, 0, none⟩) (by simp); have c1 := hb.cell (p := ⟨w.heap.size, 1, none⟩) (by simp); have c2 := hb.cell (p := ⟨w.heap.size, 2, none⟩) (by simp); have c3 := hb.cell (p := ⟨w.heap.size, 3, none⟩) (by simp); have c4 := hb.cell (p := ⟨w.heap.size, 4, none⟩) (by simp); simp at c0 c1 c2 c3 c4; have HE1 := Lib.hid ((hb.cell (p := ⟨8, 0, none⟩) HL.out).trans HE.out); have HL1 := Lib.hid (Nat.lt_of_lt_of_le HL.out hb.size); clear hb)
    | (go_at_call 165; (with_reducible refine (writes_mem k0 k1 k2 k3 k4 HM.out _).mono ?_); rintro e w2 ⟨rfl, hb⟩; have HB2 := Lib.hid (HB.out.trans (hb.mono HB.out.size)); have e2 := (hb.cell (p := ⟨8, 0, none⟩) HL1.out).trans HE1.out; clear hb))
  go_ret
  exact ⟨rfl, HB2.out⟩
theorem spoke_right {S : Nat} {a b : Shp} {th : Nat → Bool} {vr_ : Nat → Int} {W : Nat → Nat → Value} {th2 : Nat → Bool} {vr2 : Nat → Int} {W2 : Nat → Nat → Int} (k1 k2 k3 k4 s x : Int) (ht : Hid (liveB a b th vr_ th2 vr2 3 k1 k2 = true)) (hb0 : bits BinOp.and IntKind.i64 k3 2 = 0) (hb5 : (bits BinOp.and IntKind.i64 k3 5 == 0) = false) (z : Addr) (w : World) (h : (StAt w S a b th vr_ W th2 vr2 W2)) (hE : w.cell? ⟨8, 0, none⟩ = some (eV z)) (hl : 8 < w.heap.size) :
    Calls Tryz.prog 143 #[.pointer (some ⟨S, 0, none⟩), .agg #[.int .i64 3, .int .i64 k1, .int .i64 k2, .int .i64 k3, .int .u32 k4], .int .i64 s, .int .u32 x] w fun e w' => e = .returned (eV z) ∧ Below w.heap.size w w' := by
  have hb1 : ∀ o, Below w.heap.size w (w.alloc o) := fun o => (Below.refl _ _).alloc (Nat.le_refl _) _
  have H := Lib.hid (fun o => h.below (hb1 o))
  have HE := Lib.hid (fun o => ((hb1 o).cell (p := ⟨8, 0, none⟩) hl).trans hE)
  have HL := Lib.hid (fun o => Nat.lt_of_lt_of_le hl (hb1 o).size)
  have HB1 := Lib.hid hb1
  have HB0 := Lib.hid hb0
  have HB5 := Lib.hid hb5
  clear h hE hl hb1 hb0 hb5
  go_enter Tryz.func143, Tryz.ntmps143
  go_wp2_with (first
    | (go_at_call 179; (with_reducible refine (swrite_right 3 k1 k2 k3 k4 (.inr rfl) ht HB0.out HB5.out z _ (H.out _) (HE.out _) (HL.out _)).mono ?_); rintro e w1 ⟨rfl, hb⟩; have HB := Lib.hid ((HB1.out _).trans (hb.mono (by simp))); clear hb))
  go_ret
  exact ⟨rfl, HB.out⟩
set_option maxRecDepth 100000 in
theorem speek_ok {S : Nat} {a b : Shp} {th : Nat → Bool} {vr_ : Nat → Int} {W : Nat → Nat → Value} {th2 : Nat → Bool} {vr2 : Nat → Int} {W2 : Nat → Nat → Int} (k1 : Int) (k : Nat) (k2 k3 k4 s : Int) (j : Nat) (hk1 : k1 = k) (hs : s = j) (hk : k < b.n) (hj : j < 32) (hth : Hid (th2 k = true)) (ht : Hid (liveB a b th vr_ th2 vr2 3 k1 k2 = true)) (hb0 : bits BinOp.and IntKind.i64 k3 2 = 0) (x : Int) (hx : Hid (W2 k j = x)) (w : World) (h : (StAt w S a b th vr_ W th2 vr2 W2)) :
    Calls Tryz.prog 142 #[.pointer (some ⟨S, 0, none⟩), .agg #[.int .i64 3, .int .i64 k1, .int .i64 k2, .int .i64 k3, .int .u32 k4], .int .i64 s] w fun e w' => e = .returned (.tuple #[.int .u32 x, .nilIface]) ∧ Below w.heap.size w w' := by
  have hb1 : ∀ o, Below w.heap.size w (w.alloc o) := fun o => (Below.refl _ _).alloc (Nat.le_refl _) _
  have H := Lib.hid (fun o => h.below (hb1 o))
  have HB1 := Lib.hid hb1
  have HB0 := Lib.hid hb0
  have HK1 := Lib.hid hk1
  have HSj := Lib.hid hs
  clear h hb1 hb0 hk1 hs
  go_enter Tryz.func142, Tryz.ntmps142
  go_wp2_with (first
    | (go_at_call 172; (with_reducible refine (sread_ok 3 k1 k2 k3 k4 ht HB0.out _ (H.out _)).mono ?_); rintro e w1 ⟨rfl, hb⟩; have HB := Lib.hid ((HB1.out _).trans (hb.mono (by simp))); have H1 := Lib.hid ((H.out _).below hb); have c1 := hb.cell (p := ⟨w.heap.size, 1, none⟩) (by simp); simp at c1; clear hb))
  have hw := (Below.refl w1.heap.size w1).drew
  have Hd := Lib.hid (H1.out.below hw)
  have cd : w1.drew.cell? ⟨w.heap.size, 1, none⟩ = some (.int .i64 k1) := by simpa using c1
  have CD := Lib.hid cd
  clear hw cd c1
  go_region_held3 (fun w' => w'.cell? ⟨S, 1, none⟩ = some (.pointer (some ⟨b.P, 0, none⟩)) ∧ w'.cell? ⟨w.heap.size, 1, none⟩ = some (.int .i64 k1)) (first | exact ⟨Hd.out.s1, CD.out⟩ | assumption) (first | (go_at_call 178; (with_reducible refine (pread_at k1 s k j HK1 HSj hk hj hth x hx _ Hd.out.pg).mono ?_); rintro e w2 ⟨rfl, rfl⟩))
  go_wp2_with fail
  go_ret2
  exact ⟨rfl, HB.out.drew⟩
end Go.Proofs.YtncopdhhchmpeaaGreatDoor
namespace Go.Proofs.YtncopdhhchmpeaaGreatDoor
open Go.ChangeShapes Go.WideShapes Go.ChangeAt Go.RowKit
set_option linter.unusedVariables false
/-- A store over a law's start. -/
structure SV (W0 w : World) (S : Nat) (a b : Shp) (th : Nat → Bool) (vr_ : Nat → Int) (W : Nat → Nat → Value) (th2 : Nat → Bool) (vr2 : Nat → Int) (W2 : Nat → Nat → Int) : Prop where
  bel : Below W0.heap.size W0 w
  wb : W0.heap.size ≤ a.b
  st : StAt w S a b th vr_ W th2 vr2 W2
section
variable {W0 w w' : World} {S : Nat} {a b : Shp} {th th' : Nat → Bool} {vr_ vr' : Nat → Int} {W W' : Nat → Nat → Value} {th2 th2' : Nat → Bool} {vr2 vr2' : Nat → Int} {W2 W2' : Nat → Nat → Int}
theorem SV.step (h : SV W0 w S a b th vr_ W th2 vr2 W2) (hb : Below w.heap.size w w') : SV W0 w' S a b th vr_ W th2 vr2 W2 := ⟨h.bel.trans (hb.mono h.bel.size), h.wb, h.st.below hb⟩
theorem SV.node (h : SV W0 w S a b th vr_ W th2 vr2 W2) (hN : NdAt w' a.b a.P a.p a.B a.G a.n a.c th' vr' W') (hb : PBelow w w' a.B a.G) : SV W0 w' S a b th' vr' W' th2 vr2 W2 :=
  ⟨h.bel.trans (hb.below (Nat.le_trans h.wb h.st.nd.ar.lt.1) (Nat.le_trans h.wb (h.st.nd.row.lt a.G rfl).1) h.bel.size), h.wb, h.st.node hN hb⟩
theorem SV.page (h : SV W0 w S a b th vr_ W th2 vr2 W2) (hP : PgAt w' b.b b.P b.p b.B b.G b.n b.c th2' vr2' W2') (hb : PBelow w w' b.B b.G) : SV W0 w' S a b th vr_ W th2' vr2' W2' :=
  ⟨h.bel.trans (hb.below (Nat.le_trans h.wb (Nat.le_trans h.st.ab h.st.pg.ar.lt.1)) (Nat.le_trans h.wb (Nat.le_trans h.st.ab (h.st.pg.row.lt b.G rfl).1)) h.bel.size), h.wb, h.st.page hP hb⟩
end
/-- A key in a block of its own. -/
structure KeyB (w : World) (b : Nat) (k0 k1 k2 k3 k4 : Int) : Prop where
  lt : b < w.heap.size
  c0 : w.cell? ⟨b, 0, none⟩ = some (.int .i64 k0)
  c1 : w.cell? ⟨b, 1, none⟩ = some (.int .i64 k1)
  c2 : w.cell? ⟨b, 2, none⟩ = some (.int .i64 k2)
  c3 : w.cell? ⟨b, 3, none⟩ = some (.int .i64 k3)
  c4 : w.cell? ⟨b, 4, none⟩ = some (.int .u32 k4)
theorem KeyB.same {w w' : World} {b : Nat} {k0 k1 k2 k3 k4 : Int} (h : KeyB w b k0 k1 k2 k3 k4) (hs : w.heap.size ≤ w'.heap.size) (hb : w'.heap[b]? = w.heap[b]?) : KeyB w' b k0 k1 k2 k3 k4 :=
  ⟨Nat.lt_of_lt_of_le h.lt hs, (World.cell?_of_block (a := ⟨b, 0, none⟩) hb).trans h.c0, (World.cell?_of_block (a := ⟨b, 1, none⟩) hb).trans h.c1, (World.cell?_of_block (a := ⟨b, 2, none⟩) hb).trans h.c2, (World.cell?_of_block (a := ⟨b, 3, none⟩) hb).trans h.c3, (World.cell?_of_block (a := ⟨b, 4, none⟩) hb).trans h.c4⟩
theorem KeyB.below {w w' : World} {b : Nat} {k0 k1 k2 k3 k4 : Int} (h : KeyB w b k0 k1 k2 k3 k4) (hb : Below w.heap.size w w') : KeyB w' b k0 k1 k2 k3 k4 := h.same hb.size (hb.block b h.lt)
theorem KeyB.made {w w' : World} {b B G : Nat} {k0 k1 k2 k3 k4 : Int} (h : KeyB w b k0 k1 k2 k3 k4) (hb : PBelow w w' B G) (hB : b ≠ B) (hG : b ≠ G) : KeyB w' b k0 k1 k2 k3 k4 := h.same hb.2.2.2.1 (hb.2.2.2.2 b h.lt hB hG)
theorem KeyB.new (w : World) (k0 k1 k2 k3 k4 : Int) (T : TypeId) : KeyB (w.alloc (.cells #[.int .i64 k0, .int .i64 k1, .int .i64 k2, .int .i64 k3, .int .u32 k4] T (0, 0))) w.heap.size k0 k1 k2 k3 k4 := ⟨by simp, by simp, by simp, by simp, by simp, by simp⟩
end Go.Proofs.YtncopdhhchmpeaaGreatDoor
namespace Go.Proofs.YtncopdhhchmpeaaGreatDoor
open Go.ChangeShapes Go.WideShapes Go.ChangeAt Go.RowKit
set_option linter.unusedVariables false
/-- How many words a key's memory has; 0: none. -/
def szP (k0 k4 : Int) : Int := if k0 = 3 then 32 else if k0 = 2 ∧ 1 ≤ k4 ∧ k4 ≤ 4 then 32 * 16 ^ k4.toNat else 0
def szB (k0 k4 : Int) : Bool := decide (k0 = 3 ∨ (k0 = 2 ∧ 1 ≤ k4 ∧ k4 ≤ 4))
theorem p16 (n : Nat) (h : n < 4) : IntKind.u32.wrap ((32 * 16 ^ n : Int) * 16) = 32 * 16 ^ (n + 1) := by
  have : n = 0 ∨ n = 1 ∨ n = 2 ∨ n = 3 := by omega
  rcases this with rfl | rfl | rfl | rfl <;> decide
/-- What enter answers. -/
def entP (s : Int) (t l : Bool) (k0 k4 below addr : Int) : Int × Int := if (t && l) = false then (0, 2) else if k0 = 2 ∧ below ≤ k4 then (0, 5) else if s ≤ addr then (0, 3) else (s, 0)
end Go.Proofs.YtncopdhhchmpeaaGreatDoor
namespace Go.Proofs.YtncopdhhchmpeaaGreatDoor
open Go.ChangeShapes Go.WideShapes Go.ChangeAt Go.RowKit
set_option linter.unusedVariables false
theorem sread_right {S : Nat} {a b : Shp} {th : Nat → Bool} {vr_ : Nat → Int} {W : Nat → Nat → Value} {th2 : Nat → Bool} {vr2 : Nat → Int} {W2 : Nat → Nat → Int} (k0 k1 k2 k3 k4 : Int) (ht : Hid (liveB a b th vr_ th2 vr2 k0 k1 k2 = true)) (hb : (bits BinOp.and IntKind.i64 k3 2 == 0) = false) (z : Addr) (w : World) (h : (StAt w S a b th vr_ W th2 vr2 W2)) (hE : w.cell? ⟨8, 0, none⟩ = some (eV z)) (hl : 8 < w.heap.size) :
    Calls Tryz.prog 172 #[.pointer (some ⟨S, 0, none⟩), (Value.agg #[.int .i64 k0, .int .i64 k1, .int .i64 k2, .int .i64 k3, .int .u32 k4]), .int .i64 k0] w fun e w' => e = .returned (eV z) ∧ Below w.heap.size w w' := by
  have hb1 : Below w.heap.size w (w.alloc (.cells #[.int .i64 k0, .int .i64 k1, .int .i64 k2, .int .i64 k3, .int .u32 k4] 42)) := (Below.refl _ _).alloc (Nat.le_refl _) _
  have H := Lib.hid (h.below hb1)
  have HE := Lib.hid ((hb1.cell (p := ⟨8, 0, none⟩) hl).trans hE)
  have HL := Lib.hid (Nat.lt_of_lt_of_le hl hb1.size)
  clear h hE hl hb1
  go_enter Tryz.func172, Tryz.ntmps172
  go_wp2_with (first
    | (go_at_call 66; (with_reducible refine (slive_at k0 k1 k2 k3 k4 true ht _ H.out).mono ?_); rintro e w1 ⟨rfl, hb⟩; have HB := Lib.hid (((Below.refl _ _).alloc (Nat.le_refl _) _ : Below w.heap.size w _).trans (hb.mono (by simp))); have e3 := hb.cell (p := ⟨w.heap.size, 3, none⟩) (by simp); simp at e3; have e1 := (hb.cell (p := ⟨8, 0, none⟩) HL.out).trans HE.out; clear hb))
  go_ret
  exact ⟨rfl, HB.out⟩
theorem swrite_noread {S : Nat} {a b : Shp} {th : Nat → Bool} {vr_ : Nat → Int} {W : Nat → Nat → Value} {th2 : Nat → Bool} {vr2 : Nat → Int} {W2 : Nat → Nat → Int} (k0 k1 k2 k3 k4 : Int) (ht : Hid (liveB a b th vr_ th2 vr2 k0 k1 k2 = true)) (hb0 : (bits BinOp.and IntKind.i64 k3 2 == 0) = false) (z : Addr) (w : World) (h : (StAt w S a b th vr_ W th2 vr2 W2)) (hE : w.cell? ⟨8, 0, none⟩ = some (eV z)) (hl : 8 < w.heap.size) :
    Calls Tryz.prog 179 #[.pointer (some ⟨S, 0, none⟩), (Value.agg #[.int .i64 k0, .int .i64 k1, .int .i64 k2, .int .i64 k3, .int .u32 k4]), .int .i64 k0] w fun e w' => e = .returned (eV z) ∧ Below w.heap.size w w' := by
  have hb1 : Below w.heap.size w (w.alloc (.cells #[.int .i64 k0, .int .i64 k1, .int .i64 k2, .int .i64 k3, .int .u32 k4] 42)) := (Below.refl _ _).alloc (Nat.le_refl _) _
  have H := Lib.hid (h.below hb1)
  have HE := Lib.hid ((hb1.cell (p := ⟨8, 0, none⟩) hl).trans hE)
  have HL := Lib.hid (Nat.lt_of_lt_of_le hl hb1.size)
  have HB0 := Lib.hid hb0
  clear h hE hl hb1 hb0
  go_enter Tryz.func179, Tryz.ntmps179
  go_wp2_with (first
    | (go_at_call 172; (with_reducible refine (sread_right k0 k1 k2 k3 k4 ht HB0.out z _ H.out HE.out HL.out).mono ?_); rintro e w1 ⟨rfl, hb⟩; have HB := Lib.hid (((Below.refl _ _).alloc (Nat.le_refl _) _ : Below w.heap.size w _).trans (hb.mono (by simp))); clear hb))
  go_ret
  exact ⟨rfl, HB.out⟩
theorem swrite_ok {S : Nat} {a b : Shp} {th : Nat → Bool} {vr_ : Nat → Int} {W : Nat → Nat → Value} {th2 : Nat → Bool} {vr2 : Nat → Int} {W2 : Nat → Nat → Int} (k0 k1 k2 k3 k4 : Int) (hm : k0 = 2 ∨ k0 = 3) (ht : Hid (liveB a b th vr_ th2 vr2 k0 k1 k2 = true)) (hb0 : bits BinOp.and IntKind.i64 k3 2 = 0) (hb5 : (bits BinOp.and IntKind.i64 k3 5 == 0) = true) (w : World) (h : (StAt w S a b th vr_ W th2 vr2 W2)) :
    Calls Tryz.prog 179 #[.pointer (some ⟨S, 0, none⟩), (Value.agg #[.int .i64 k0, .int .i64 k1, .int .i64 k2, .int .i64 k3, .int .u32 k4]), .int .i64 k0] w fun e w' => e = .returned .nilIface ∧ Below w.heap.size w w' := by
  have hb1 : Below w.heap.size w (w.alloc (.cells #[.int .i64 k0, .int .i64 k1, .int .i64 k2, .int .i64 k3, .int .u32 k4] 42)) := (Below.refl _ _).alloc (Nat.le_refl _) _
  have H := Lib.hid (h.below hb1)
  have HM := Lib.hid hm
  clear h hb1 hm
  go_enter Tryz.func179, Tryz.ntmps179
  go_wp2_with (first
    | (go_at_call 172; (with_reducible refine (sread_ok k0 k1 k2 k3 k4 ht hb0 _ H.out).mono ?_); rintro e w1 ⟨rfl, hb⟩; have HB := Lib.hid (((Below.refl _ _).alloc (Nat.le_refl _) _ : Below w.heap.size w _).trans (hb.mono (by simp))); have c0 := hb.cell (p := ⟨w.heap.size, 0, none⟩) (by simp); have c1 := hb.cell (p := ⟨w.heap.size, 1, none⟩) (by simp); have c2 := hb.cell (p := ⟨w.heap.size, 2, none⟩) (by simp); have c3 := hb.cell (p := ⟨w.heap.size, 3, none⟩) (by simp); have c4 := hb.cell (p := ⟨w.heap.size, 4, none⟩) (by simp); simp at c0 c1 c2 c3 c4; clear hb)
    | (go_at_call 165; (with_reducible refine (writes_mem k0 k1 k2 k3 k4 HM.out _).mono ?_); rintro e w2 ⟨rfl, hb⟩; have HB2 := Lib.hid (HB.out.trans (hb.mono HB.out.size)); clear hb))
  go_ret
  exact ⟨rfl, HB2.out⟩
theorem swrite_nowrite {S : Nat} {a b : Shp} {th : Nat → Bool} {vr_ : Nat → Int} {W : Nat → Nat → Value} {th2 : Nat → Bool} {vr2 : Nat → Int} {W2 : Nat → Nat → Int} (k0 k1 k2 k3 k4 : Int) (hm : k0 = 2 ∨ k0 = 3) (ht : Hid (liveB a b th vr_ th2 vr2 k0 k1 k2 = true)) (hb0 : bits BinOp.and IntKind.i64 k3 2 = 0) (hb5 : (bits BinOp.and IntKind.i64 k3 5 == 0) = false) (z : Addr) (w : World) (h : (StAt w S a b th vr_ W th2 vr2 W2)) (hE : w.cell? ⟨8, 0, none⟩ = some (eV z)) (hl : 8 < w.heap.size) :
    Calls Tryz.prog 179 #[.pointer (some ⟨S, 0, none⟩), (Value.agg #[.int .i64 k0, .int .i64 k1, .int .i64 k2, .int .i64 k3, .int .u32 k4]), .int .i64 k0] w fun e w' => e = .returned (eV z) ∧ Below w.heap.size w w' := by
  have hb1 : Below w.heap.size w (w.alloc (.cells #[.int .i64 k0, .int .i64 k1, .int .i64 k2, .int .i64 k3, .int .u32 k4] 42)) := (Below.refl _ _).alloc (Nat.le_refl _) _
  have H := Lib.hid (h.below hb1)
  have HM := Lib.hid hm
  have HE := Lib.hid ((hb1.cell (p := ⟨8, 0, none⟩) hl).trans hE)
  have HL := Lib.hid (Nat.lt_of_lt_of_le hl hb1.size)
  clear h hb1 hm hE hl
  go_enter Tryz.func179, Tryz.ntmps179
  go_wp2_with (first
    | (go_at_call 172; (with_reducible refine (sread_ok k0 k1 k2 k3 k4 ht hb0 _ H.out).mono ?_); rintro e w1 ⟨rfl, hb⟩; have HB := Lib.hid (((Below.refl _ _).alloc (Nat.le_refl _) _ : Below w.heap.size w _).trans (hb.mono (by simp))); have HE1 := Lib.hid ((hb.cell (p := ⟨8, 0, none⟩) HL.out).trans HE.out); have HL1 := Lib.hid (Nat.lt_of_lt_of_le HL.out hb.size); have c0 := hb.cell (p := ⟨w.heap.size, 0, none⟩) (by simp); have c1 := hb.cell (p := ⟨w.heap.size, 1, none⟩) (by simp); have c2 := hb.cell (p := ⟨w.heap.size, 2, none⟩) (by simp); have c3 := hb.cell (p := ⟨w.heap.size, 3, none⟩) (by simp); have c4 := hb.cell (p := ⟨w.heap.size, 4, none⟩) (by simp); simp at c0 c1 c2 c3 c4; clear hb)
    | (go_at_call 165; (with_reducible refine (writes_mem k0 k1 k2 k3 k4 HM.out _).mono ?_); rintro e w2 ⟨rfl, hb⟩; have HB2 := Lib.hid (HB.out.trans (hb.mono HB.out.size)); have e2 := (hb.cell (p := ⟨8, 0, none⟩) HL1.out).trans HE1.out; clear hb))
  go_ret
  exact ⟨rfl, HB2.out⟩
/-- A key's cells. -/
structure KeyC (w : World) (b : Nat) (k0 k1 k2 k3 k4 : Int) : Prop where
  lt : b < w.heap.size
  c0 : w.cell? ⟨b, 0, none⟩ = some (.int .i64 k0)
  c1 : w.cell? ⟨b, 1, none⟩ = some (.int .i64 k1)
  c2 : w.cell? ⟨b, 2, none⟩ = some (.int .i64 k2)
  c3 : w.cell? ⟨b, 3, none⟩ = some (.int .i64 k3)
  c4 : w.cell? ⟨b, 4, none⟩ = some (.int .u32 k4)
  fr : ∀ j, w.frozen? ⟨b, j, none⟩ = false
theorem KeyC.below {w w' : World} {b : Nat} {k0 k1 k2 k3 k4 : Int} (h : KeyC w b k0 k1 k2 k3 k4) (hb : Below w.heap.size w w') : KeyC w' b k0 k1 k2 k3 k4 :=
  ⟨Nat.lt_of_lt_of_le h.lt hb.size, (hb.cell (p := ⟨b, 0, none⟩) h.lt).trans h.c0, (hb.cell (p := ⟨b, 1, none⟩) h.lt).trans h.c1, (hb.cell (p := ⟨b, 2, none⟩) h.lt).trans h.c2, (hb.cell (p := ⟨b, 3, none⟩) h.lt).trans h.c3, (hb.cell (p := ⟨b, 4, none⟩) h.lt).trans h.c4, fun j => (hb.frozen (p := ⟨b, j, none⟩) h.lt).trans (h.fr j)⟩
theorem KeyC.new (w : World) (k0 k1 k2 k3 k4 : Int) (T : TypeId) : KeyC (w.alloc (.cells #[.int .i64 k0, .int .i64 k1, .int .i64 k2, .int .i64 k3, .int .u32 k4] T (0, 0))) w.heap.size k0 k1 k2 k3 k4 := ⟨by simp, by simp, by simp, by simp, by simp, by simp, fun j => by simp⟩
theorem KeyC.of {w w' : World} {k0 k1 k2 k3 k4 : Int} {T : TypeId} {o : Obj} (hb : Below ((w.alloc (.cells #[.int .i64 k0, .int .i64 k1, .int .i64 k2, .int .i64 k3, .int .u32 k4] T (0, 0))).alloc o).heap.size ((w.alloc (.cells #[.int .i64 k0, .int .i64 k1, .int .i64 k2, .int .i64 k3, .int .u32 k4] T (0, 0))).alloc o) w') : KeyC w' w.heap.size k0 k1 k2 k3 k4 :=
  (((KeyC.new w k0 k1 k2 k3 k4 T).below ((Below.refl _ _).alloc (Nat.le_refl _) o))).below hb
theorem KeyC.of2 {w w' : World} {k0 k1 k2 k3 k4 : Int} {T : TypeId} {o : Obj} (hb : Below ((w.alloc o).alloc (.cells #[.int .i64 k0, .int .i64 k1, .int .i64 k2, .int .i64 k3, .int .u32 k4] T (0, 0))).heap.size ((w.alloc o).alloc (.cells #[.int .i64 k0, .int .i64 k1, .int .i64 k2, .int .i64 k3, .int .u32 k4] T (0, 0))) w') : KeyC w' (w.heap.size + 1) k0 k1 k2 k3 k4 := by
  have h := (KeyC.new (w.alloc o) k0 k1 k2 k3 k4 T).below hb
  have e : (w.alloc o).heap.size = w.heap.size + 1 := by simp
  rw [e] at h
  exact h
theorem KeyC.set {w : World} {b : Nat} {y0 y1 y2 y3 y4 : Int} (h : KeyC w b y0 y1 y2 y3 y4) (z0 z1 z2 z3 z4 : Int) :
    KeyC (((((w.setCell ⟨b, 0, none⟩ (.int .i64 z0)).setCell ⟨b, 1, none⟩ (.int .i64 z1)).setCell ⟨b, 2, none⟩ (.int .i64 z2)).setCell ⟨b, 3, none⟩ (.int .i64 z3)).setCell ⟨b, 4, none⟩ (.int .u32 z4)) b z0 z1 z2 z3 z4 := by
  have hs : ∀ j, j < (k5 z0 z1 z2 z3 z4).length → (w.cell? ⟨b, 0 + j, none⟩).isSome = true := by
    intro j hj
    have hj' : j = 0 ∨ j = 1 ∨ j = 2 ∨ j = 3 ∨ j = 4 := by simp [k5] at hj; omega
    rw [Nat.zero_add]
    rcases hj' with rfl | rfl | rfl | rfl | rfl
    · rw [h.c0]; rfl
    · rw [h.c1]; rfl
    · rw [h.c2]; rfl
    · rw [h.c3]; rfl
    · rw [h.c4]; rfl
  have all := World.cell?_setCells_in b (k5 z0 z1 z2 z3 z4) 0 w hs
  have hz : (w.setCells b 0 (k5 z0 z1 z2 z3 z4)).heap.size = w.heap.size := by simp [k5, World.setCells]
  exact ⟨Nat.lt_of_lt_of_le h.lt (Nat.le_of_eq hz.symm), all 0 (by simp [k5]), all 1 (by simp [k5]), all 2 (by simp [k5]), all 3 (by simp [k5]), all 4 (by simp [k5]), fun j => (World.frozen?_setCells b (k5 z0 z1 z2 z3 z4) 0 w ⟨b, j, none⟩).trans (h.fr j)⟩
section
variable {w X Y : World} {S P : Nat} {k1 : Int}
theorem fskeep (h : Below w.heap.size w X ∧ World.cell? X ⟨S, 0, none⟩ = some (.pointer (some ⟨P, 0, none⟩)) ∧ World.cell? X ⟨w.heap.size, 1, none⟩ = some (.int .i64 k1)) (hb : Below X.heap.size X Y) : Below w.heap.size w Y ∧ World.cell? Y ⟨S, 0, none⟩ = some (.pointer (some ⟨P, 0, none⟩)) ∧ World.cell? Y ⟨w.heap.size, 1, none⟩ = some (.int .i64 k1) := by
  have l1 : S < X.heap.size := by
    rcases Nat.lt_or_ge S X.heap.size with h' | h'
    · exact h'
    · have := h.2.1; simp [World.cell?, Array.getElem?_eq_none h'] at this
  have l2 : w.heap.size < X.heap.size := by
    rcases Nat.lt_or_ge w.heap.size X.heap.size with h' | h'
    · exact h'
    · have := h.2.2; simp [World.cell?, Array.getElem?_eq_none h'] at this
  exact ⟨h.1.trans (hb.mono h.1.size), (hb.cell (p := ⟨S, 0, none⟩) l1).trans h.2.1, (hb.cell (p := ⟨w.heap.size, 1, none⟩) l2).trans h.2.2⟩
end
set_option maxRecDepth 100000 in
set_option maxHeartbeats 2000000 in
theorem sfetch_ok {S : Nat} {a b : Shp} {th : Nat → Bool} {vr_ : Nat → Int} {W : Nat → Nat → Value} {th2 : Nat → Bool} {vr2 : Nat → Int} {W2 : Nat → Nat → Int} (k1 : Int) (k : Nat) (k2 k3 k4 s : Int) (j : Nat) (hk1 : k1 = k) (hs : s = j) (hk : k < a.n) (hj : j < 16) (hth : Hid (th k = true)) (ht : Hid (liveB a b th vr_ th2 vr2 2 k1 k2 = true)) (hb0 : bits BinOp.and IntKind.i64 k3 2 = 0) (y0 y1 y2 y3 y4 r0 r1 r2 r3 r4 : Int) (hy : Hid (KAt (W k) j y0 y1 y2 y3 y4))
    (hT : Hid (∀ w, Calls Tryz.prog 174 #[.int .i64 k3, (Value.agg #[.int .i64 y0, .int .i64 y1, .int .i64 y2, .int .i64 y3, .int .u32 y4])] w fun e w' => e = .returned (Value.agg #[.int .i64 r0, .int .i64 r1, .int .i64 r2, .int .i64 r3, .int .u32 r4]) ∧ Below w.heap.size w w')) (w : World) (h : (StAt w S a b th vr_ W th2 vr2 W2)) :
    Calls Tryz.prog 134 #[.pointer (some ⟨S, 0, none⟩), (.agg #[.int .i64 2, .int .i64 k1, .int .i64 k2, .int .i64 k3, .int .u32 k4]), .int .i64 s] w fun e w' => e = .returned (.tuple #[(Value.agg #[.int .i64 r0, .int .i64 r1, .int .i64 r2, .int .i64 r3, .int .u32 r4]), .nilIface]) ∧ Below w.heap.size w w' := by
  have hb1 : ∀ o o', Below w.heap.size w ((w.alloc o).alloc o') := fun o o' => ((Below.refl _ _).alloc (Nat.le_refl _) _ : Below w.heap.size w (w.alloc o)).alloc (by simp) o'
  have H := Lib.hid (fun o o' => h.below (hb1 o o'))
  have HB1 := Lib.hid hb1
  have HB0 := Lib.hid hb0
  have HK1 := Lib.hid hk1
  have HSj := Lib.hid hs
  have g0 : Hid (W k (j * 5) = .int .i64 y0) := Lib.hid hy.out.1
  have g1 : Hid (W k (j * 5 + 1) = .int .i64 y1) := Lib.hid hy.out.2.1
  have g2 : Hid (W k (j * 5 + 2) = .int .i64 y2) := Lib.hid hy.out.2.2.1
  have g3 : Hid (W k (j * 5 + 3) = .int .i64 y3) := Lib.hid hy.out.2.2.2.1
  have g4 : Hid (W k (j * 5 + 4) = .int .u32 y4) := Lib.hid hy.out.2.2.2.2
  clear h hb1 hb0 hk1 hs
  go_enter Tryz.func134, Tryz.ntmps134
  go_upto_region 4 with (first
    | (go_at_call 172; (with_reducible refine (sread_ok 2 k1 k2 k3 k4 ht HB0.out _ (H.out _ _)).mono ?_); rintro e w1 ⟨rfl, hb⟩; have HB := Lib.hid ((HB1.out _ _).trans (hb.mono (by simp; omega))); have H1 := Lib.hid ((H.out _ _).below hb); have HK0 : Hid (KeyC w1 w.heap.size 2 k1 k2 k3 k4) := Lib.hid (KeyC.of hb); have HZ0 : Hid (KeyC w1 (w.heap.size + 1) 0 0 0 0 0) := Lib.hid (KeyC.of2 hb); clear hb))
  go_cut [9, 10] (fun u o wx => ∃ bx : Nat, u = .pointer (some ⟨bx, 0, none⟩) ∧ o = .bool true ∧ Below w.heap.size w wx ∧ (StAt wx S a b th vr_ W th2 vr2 W2) ∧ KeyC wx bx y0 y1 y2 y3 y4 ∧ KeyC wx w.heap.size 2 k1 k2 k3 k4 ∧ KeyC wx (w.heap.size + 1) 0 0 0 0 0 ∧ w.heap.size + 2 ≤ bx)
  case first =>
    have Hs := Lib.hid H1.out.s0
    have Hk := Lib.hid HK0.out.c1
    have hs := Hs.out
    have hk1' := Hk.out
    have hA : ∀ o, World.cell? (w1.alloc o) ⟨S, 0, none⟩ = some (.pointer (some ⟨a.P, 0, none⟩)) := fun o => (H1.out.below ((Below.refl w1.heap.size w1).alloc (Nat.le_refl _) o)).s0
    have hA' : ∀ o, World.cell? (w1.alloc o) ⟨w.heap.size, 1, none⟩ = some (.int .i64 k1) := fun o => (HK0.out.below ((Below.refl w1.heap.size w1).alloc (Nat.le_refl _) o)).c1
    have hs1 := hA (.cells #[.int .i64 0, .int .i64 0, .int .i64 0, .int .i64 0, .int .u32 0] 42 (0, 0))
    have hs2 := hA' (.cells #[.int .i64 0, .int .i64 0, .int .i64 0, .int .i64 0, .int .u32 0] 42 (0, 0))
    clear hA hA'
    have hl1 := HK0.out.lt
    go_region_with (first | (go_at_call 173; (with_reducible refine (nget_at k1 s k j HK1 HSj hk hj hth y0 y1 y2 y3 y4 g0 g1 g2 g3 g4 _ (H1.out.below (Below.refl w1.heap.size w1).drew).nd).mono ?_); rintro e w2 ⟨rfl, hb⟩; have HBB := Lib.hid hb; clear hb) | (go_at_call 173; (with_reducible refine (nget_at k1 s k j HK1 HSj hk hj hth y0 y1 y2 y3 y4 g0 g1 g2 g3 g4 _ (H1.out.below ((Below.refl w1.heap.size w1).alloc (Nat.le_refl _) _).drew).nd).mono ?_); rintro e w2 ⟨rfl, hb⟩; have HBA := Lib.hid hb; have hKB := ((KeyC.new w1 0 0 0 0 0 42).below (Below.refl _ _).drew).below hb; have kc0 := hKB.c0; have kc1 := hKB.c1; have kc2 := hKB.c2; have kc3 := hKB.c3; have kc4 := hKB.c4; have kf0 := hKB.fr 0; have kf1 := hKB.fr 1; have kf2 := hKB.fr 2; have kf3 := hKB.fr 3; have kf4 := hKB.fr 4; have HKB := Lib.hid hKB; clear hb hKB))
    all_goals (go_wp2_with fail; go_meet; clear hs1 hs2 hs hk1'; have hz := HB.out.size; have hz2 : w.heap.size + 2 ≤ w1.heap.size := Nat.succ_le_of_lt HZ0.out.lt)
    all_goals (first
      | (have hb := ((Below.refl w1.heap.size w1).drew.trans (HBB.out.mono (by simp))).alloc (Nat.le_trans HBB.out.size (Nat.le_refl _)) (.cells #[.int .i64 y0, .int .i64 y1, .int .i64 y2, .int .i64 y3, .int .u32 y4] 42 (0, 0)); exact ⟨_, rfl, rfl, HB.out.trans (hb.mono hz), H1.out.below hb, KeyC.new _ y0 y1 y2 y3 y4 _, HK0.out.below hb, HZ0.out.below hb, Nat.le_trans hz2 HBB.out.size⟩)
      | (have hb := below_set5 ((((Below.refl w1.heap.size w1).alloc (Nat.le_refl _) _).drew).trans (HBA.out.mono (by simp))) (Nat.le_refl _) y0 y1 y2 y3 y4; exact ⟨_, rfl, rfl, HB.out.trans (hb.mono hz), H1.out.below hb, HKB.out.set y0 y1 y2 y3 y4, HK0.out.below hb, HZ0.out.below hb, hz2⟩))
  case rest =>
    obtain ⟨bx, rfl, rfl, hb, h, ky, kk, kz, hl⟩ := hcut
    have q0 := ky.c0
    have q1 := ky.c1
    have q2 := ky.c2
    have q3 := ky.c3
    have q4 := ky.c4
    have kk3 := kk.c3
    have HC := Lib.hid hb
    have HZ := Lib.hid kz
    clear hb h ky kk kz hl
    go_wp2_with (first
      | (go_at_call 174; (with_reducible refine (hT.out _).mono ?_); rintro e w3 ⟨rfl, hb3⟩; have z := HZ.out.below hb3; have z0 := z.c0; have z1 := z.c1; have z2 := z.c2; have z3 := z.c3; have z4 := z.c4; have f0 := z.fr 0; have f1 := z.fr 1; have f2 := z.fr 2; have f3 := z.fr 3; have f4 := z.fr 4; have HC3 := Lib.hid (HC.out.trans (hb3.mono HC.out.size)); have HZ3 := Lib.hid z; clear z hb3))
    have t := HZ3.out.set r0 r1 r2 r3 r4
    have t0 := t.c0
    have t1 := t.c1
    have t2 := t.c2
    have t3 := t.c3
    have t4 := t.c4
    (try simp only [Exit.inBlock, Exit.then])
    refine bodyPost_ret (v := .tuple #[(Value.agg #[.int .i64 r0, .int .i64 r1, .int .i64 r2, .int .i64 r3, .int .u32 r4]), .nilIface]) ?_ rfl ?_
    · simp [results, go_sem, t0, t1, t2, t3, t4]
    · exact ⟨rfl, below_set5 HC3.out (Nat.le_succ _) r0 r1 r2 r3 r4⟩
set_option maxHeartbeats 1000000 in
theorem sfetch_right {S : Nat} {a b : Shp} {th : Nat → Bool} {vr_ : Nat → Int} {W : Nat → Nat → Value} {th2 : Nat → Bool} {vr2 : Nat → Int} {W2 : Nat → Nat → Int} (k1 k2 k3 k4 s : Int) (ht : Hid (liveB a b th vr_ th2 vr2 2 k1 k2 = true)) (hb0 : Hid ((bits BinOp.and IntKind.i64 k3 2 == 0) = false)) (z : Addr) (w : World) (h : (StAt w S a b th vr_ W th2 vr2 W2)) (hE : w.cell? ⟨8, 0, none⟩ = some (eV z)) (hl : 8 < w.heap.size) :
    Calls Tryz.prog 134 #[.pointer (some ⟨S, 0, none⟩), .agg #[.int .i64 2, .int .i64 k1, .int .i64 k2, .int .i64 k3, .int .u32 k4], .int .i64 s] w fun e w' => e = .returned (.tuple #[.agg #[.int .i64 0, .int .i64 0, .int .i64 0, .int .i64 0, .int .u32 0], eV z]) ∧ Below w.heap.size w w' := by
  have hb1 : ∀ o o', Below w.heap.size w ((w.alloc o).alloc o') := fun o o' => ((Below.refl _ _).alloc (Nat.le_refl _) _ : Below w.heap.size w (w.alloc o)).alloc (by simp) o'
  have H := Lib.hid (fun o o' => h.below (hb1 o o'))
  have HE := Lib.hid (fun o o' => ((hb1 o o').cell (p := ⟨8, 0, none⟩) hl).trans hE)
  have HL := Lib.hid (fun o o' => Nat.lt_of_lt_of_le hl (hb1 o o').size)
  have HB1 := Lib.hid hb1
  clear h hE hl hb1
  go_enter Tryz.func134, Tryz.ntmps134
  go_wp2_with (first
    | (go_at_call 172; (with_reducible refine (sread_right 2 k1 k2 k3 k4 ht hb0.out z _ (H.out _ _) (HE.out _ _) (HL.out _ _)).mono ?_); rintro e w1 ⟨rfl, hb⟩; have HB := Lib.hid ((HB1.out _ _).trans (hb.mono (by simp; omega))); have c0 := hb.cell (p := ⟨w.heap.size + 1, 0, none⟩) (by simp); have c1 := hb.cell (p := ⟨w.heap.size + 1, 1, none⟩) (by simp); have c2 := hb.cell (p := ⟨w.heap.size + 1, 2, none⟩) (by simp); have c3 := hb.cell (p := ⟨w.heap.size + 1, 3, none⟩) (by simp); have c4 := hb.cell (p := ⟨w.heap.size + 1, 4, none⟩) (by simp); have z0 := hb.frozen (p := ⟨w.heap.size + 1, 0, none⟩) (by simp); have z1 := hb.frozen (p := ⟨w.heap.size + 1, 1, none⟩) (by simp); have z2 := hb.frozen (p := ⟨w.heap.size + 1, 2, none⟩) (by simp); have z3 := hb.frozen (p := ⟨w.heap.size + 1, 3, none⟩) (by simp); have z4 := hb.frozen (p := ⟨w.heap.size + 1, 4, none⟩) (by simp); simp at c0 c1 c2 c3 c4 z0 z1 z2 z3 z4; clear hb))
  have hX := kcell5 (W := w1) (b := w.heap.size + 1) 0 0 0 0 0 ⟨_, c0⟩ ⟨_, c1⟩ ⟨_, c2⟩ ⟨_, c3⟩ ⟨_, c4⟩
  obtain ⟨d0, d1, d2, d3, d4⟩ := hX
  refine bodyPost_ret (v := .tuple #[.agg #[.int .i64 0, .int .i64 0, .int .i64 0, .int .i64 0, .int .u32 0], eV z]) (by simp [results, Tryz.results134, go_sem, d0, d1, d2, d3, d4]) rfl ⟨rfl, below_set5 HB.out (by omega) _ _ _ _ _⟩
set_option maxHeartbeats 1000000 in
theorem sswap_right {S : Nat} {a b : Shp} {th : Nat → Bool} {vr_ : Nat → Int} {W : Nat → Nat → Value} {th2 : Nat → Bool} {vr2 : Nat → Int} {W2 : Nat → Nat → Int} (k1 k2 k3 k4 s x0 x1 x2 x3 x4 : Int) (ht : Hid (liveB a b th vr_ th2 vr2 2 k1 k2 = true)) (hb0 : Hid ((bits BinOp.and IntKind.i64 k3 2 == 0) = false)) (z : Addr) (w : World) (h : (StAt w S a b th vr_ W th2 vr2 W2)) (hE : w.cell? ⟨8, 0, none⟩ = some (eV z)) (hl : 8 < w.heap.size) :
    Calls Tryz.prog 175 #[.pointer (some ⟨S, 0, none⟩), .agg #[.int .i64 2, .int .i64 k1, .int .i64 k2, .int .i64 k3, .int .u32 k4], .int .i64 s, (Value.agg #[.int .i64 x0, .int .i64 x1, .int .i64 x2, .int .i64 x3, .int .u32 x4])] w fun e w' => e = .returned (.tuple #[.agg #[.int .i64 0, .int .i64 0, .int .i64 0, .int .i64 0, .int .u32 0], eV z]) ∧ Below w.heap.size w w' := by
  have hb1 : ∀ o o' o2, Below w.heap.size w (((w.alloc o).alloc o').alloc o2) := fun o o' o2 => (((Below.refl _ _).alloc (Nat.le_refl _) _ : Below w.heap.size w (w.alloc o)).alloc (by simp) o').alloc (by simp; omega) o2
  have H := Lib.hid (fun o o' o2 => h.below (hb1 o o' o2))
  have HE := Lib.hid (fun o o' o2 => ((hb1 o o' o2).cell (p := ⟨8, 0, none⟩) hl).trans hE)
  have HL := Lib.hid (fun o o' o2 => Nat.lt_of_lt_of_le hl (hb1 o o' o2).size)
  have HB1 := Lib.hid hb1
  clear h hE hl hb1
  go_enter Tryz.func175, Tryz.ntmps175
  go_wp2_with (first
    | (go_at_call 179; (with_reducible refine (swrite_noread 2 k1 k2 k3 k4 ht hb0.out z _ (H.out _ _ _) (HE.out _ _ _) (HL.out _ _ _)).mono ?_); rintro e w1 ⟨rfl, hb⟩; have HB := Lib.hid ((HB1.out _ _ _).trans (hb.mono (HB1.out _ _ _).size)); have c0 := (hb.cell (p := ⟨w.heap.size + 1 + 1, 0, none⟩) (new3 w _ _ _ _ 0).2.2).trans (new3 w _ _ _ _ 0).1; have c1 := (hb.cell (p := ⟨w.heap.size + 1 + 1, 1, none⟩) (new3 w _ _ _ _ 1).2.2).trans (new3 w _ _ _ _ 1).1; have c2 := (hb.cell (p := ⟨w.heap.size + 1 + 1, 2, none⟩) (new3 w _ _ _ _ 2).2.2).trans (new3 w _ _ _ _ 2).1; have c3 := (hb.cell (p := ⟨w.heap.size + 1 + 1, 3, none⟩) (new3 w _ _ _ _ 3).2.2).trans (new3 w _ _ _ _ 3).1; have c4 := (hb.cell (p := ⟨w.heap.size + 1 + 1, 4, none⟩) (new3 w _ _ _ _ 4).2.2).trans (new3 w _ _ _ _ 4).1; have z0 := (hb.frozen (p := ⟨w.heap.size + 1 + 1, 0, none⟩) (new3 w _ _ _ _ 0).2.2).trans (new3 w _ _ _ _ 0).2.1; have z1 := (hb.frozen (p := ⟨w.heap.size + 1 + 1, 1, none⟩) (new3 w _ _ _ _ 1).2.2).trans (new3 w _ _ _ _ 1).2.1; have z2 := (hb.frozen (p := ⟨w.heap.size + 1 + 1, 2, none⟩) (new3 w _ _ _ _ 2).2.2).trans (new3 w _ _ _ _ 2).2.1; have z3 := (hb.frozen (p := ⟨w.heap.size + 1 + 1, 3, none⟩) (new3 w _ _ _ _ 3).2.2).trans (new3 w _ _ _ _ 3).2.1; have z4 := (hb.frozen (p := ⟨w.heap.size + 1 + 1, 4, none⟩) (new3 w _ _ _ _ 4).2.2).trans (new3 w _ _ _ _ 4).2.1; simp at c0 c1 c2 c3 c4; clear hb))
  have hX := kcell5 (W := w1) (b := w.heap.size + 1 + 1) 0 0 0 0 0 ⟨_, c0⟩ ⟨_, c1⟩ ⟨_, c2⟩ ⟨_, c3⟩ ⟨_, c4⟩
  obtain ⟨d0, d1, d2, d3, d4⟩ := hX
  refine bodyPost_ret (v := .tuple #[.agg #[.int .i64 0, .int .i64 0, .int .i64 0, .int .i64 0, .int .u32 0], eV z]) (by simp [results, Tryz.results175, go_sem, d0, d1, d2, d3, d4]) rfl ⟨rfl, below_set5 HB.out (by omega) _ _ _ _ _⟩
set_option maxHeartbeats 1000000 in
theorem sswap_nowrite {S : Nat} {a b : Shp} {th : Nat → Bool} {vr_ : Nat → Int} {W : Nat → Nat → Value} {th2 : Nat → Bool} {vr2 : Nat → Int} {W2 : Nat → Nat → Int} (k1 k2 k3 k4 s x0 x1 x2 x3 x4 : Int) (ht : Hid (liveB a b th vr_ th2 vr2 2 k1 k2 = true)) (hb0 : Hid (bits BinOp.and IntKind.i64 k3 2 = 0)) (hb5 : Hid ((bits BinOp.and IntKind.i64 k3 5 == 0) = false)) (z : Addr) (w : World) (h : (StAt w S a b th vr_ W th2 vr2 W2)) (hE : w.cell? ⟨8, 0, none⟩ = some (eV z)) (hl : 8 < w.heap.size) :
    Calls Tryz.prog 175 #[.pointer (some ⟨S, 0, none⟩), .agg #[.int .i64 2, .int .i64 k1, .int .i64 k2, .int .i64 k3, .int .u32 k4], .int .i64 s, (Value.agg #[.int .i64 x0, .int .i64 x1, .int .i64 x2, .int .i64 x3, .int .u32 x4])] w fun e w' => e = .returned (.tuple #[.agg #[.int .i64 0, .int .i64 0, .int .i64 0, .int .i64 0, .int .u32 0], eV z]) ∧ Below w.heap.size w w' := by
  have hb1 : ∀ o o' o2, Below w.heap.size w (((w.alloc o).alloc o').alloc o2) := fun o o' o2 => (((Below.refl _ _).alloc (Nat.le_refl _) _ : Below w.heap.size w (w.alloc o)).alloc (by simp) o').alloc (by simp; omega) o2
  have H := Lib.hid (fun o o' o2 => h.below (hb1 o o' o2))
  have HE := Lib.hid (fun o o' o2 => ((hb1 o o' o2).cell (p := ⟨8, 0, none⟩) hl).trans hE)
  have HL := Lib.hid (fun o o' o2 => Nat.lt_of_lt_of_le hl (hb1 o o' o2).size)
  have HB1 := Lib.hid hb1
  clear h hE hl hb1
  go_enter Tryz.func175, Tryz.ntmps175
  go_wp2_with (first
    | (go_at_call 179; (with_reducible refine (swrite_nowrite 2 k1 k2 k3 k4 (Or.inl rfl) ht hb0.out hb5.out z _ (H.out _ _ _) (HE.out _ _ _) (HL.out _ _ _)).mono ?_); rintro e w1 ⟨rfl, hb⟩; have HB := Lib.hid ((HB1.out _ _ _).trans (hb.mono (HB1.out _ _ _).size)); have c0 := (hb.cell (p := ⟨w.heap.size + 1 + 1, 0, none⟩) (new3 w _ _ _ _ 0).2.2).trans (new3 w _ _ _ _ 0).1; have c1 := (hb.cell (p := ⟨w.heap.size + 1 + 1, 1, none⟩) (new3 w _ _ _ _ 1).2.2).trans (new3 w _ _ _ _ 1).1; have c2 := (hb.cell (p := ⟨w.heap.size + 1 + 1, 2, none⟩) (new3 w _ _ _ _ 2).2.2).trans (new3 w _ _ _ _ 2).1; have c3 := (hb.cell (p := ⟨w.heap.size + 1 + 1, 3, none⟩) (new3 w _ _ _ _ 3).2.2).trans (new3 w _ _ _ _ 3).1; have c4 := (hb.cell (p := ⟨w.heap.size + 1 + 1, 4, none⟩) (new3 w _ _ _ _ 4).2.2).trans (new3 w _ _ _ _ 4).1; have z0 := (hb.frozen (p := ⟨w.heap.size + 1 + 1, 0, none⟩) (new3 w _ _ _ _ 0).2.2).trans (new3 w _ _ _ _ 0).2.1; have z1 := (hb.frozen (p := ⟨w.heap.size + 1 + 1, 1, none⟩) (new3 w _ _ _ _ 1).2.2).trans (new3 w _ _ _ _ 1).2.1; have z2 := (hb.frozen (p := ⟨w.heap.size + 1 + 1, 2, none⟩) (new3 w _ _ _ _ 2).2.2).trans (new3 w _ _ _ _ 2).2.1; have z3 := (hb.frozen (p := ⟨w.heap.size + 1 + 1, 3, none⟩) (new3 w _ _ _ _ 3).2.2).trans (new3 w _ _ _ _ 3).2.1; have z4 := (hb.frozen (p := ⟨w.heap.size + 1 + 1, 4, none⟩) (new3 w _ _ _ _ 4).2.2).trans (new3 w _ _ _ _ 4).2.1; simp at c0 c1 c2 c3 c4; clear hb))
  have hX := kcell5 (W := w1) (b := w.heap.size + 1 + 1) 0 0 0 0 0 ⟨_, c0⟩ ⟨_, c1⟩ ⟨_, c2⟩ ⟨_, c3⟩ ⟨_, c4⟩
  obtain ⟨d0, d1, d2, d3, d4⟩ := hX
  refine bodyPost_ret (v := .tuple #[.agg #[.int .i64 0, .int .i64 0, .int .i64 0, .int .i64 0, .int .u32 0], eV z]) (by simp [results, Tryz.results175, go_sem, d0, d1, d2, d3, d4]) rfl ⟨rfl, below_set5 HB.out (by omega) _ _ _ _ _⟩
end Go.Proofs.YtncopdhhchmpeaaGreatDoor
namespace Go.Proofs.YtncopdhhchmpeaaGreatDoor
open Go.ChangeShapes Go.WideShapes Go.ChangeAt Go.RowKit
set_option linter.unusedVariables false
set_option linter.unusedSimpArgs false
/-- What rights make read-only. -/
def roB (k3 : Int) : Bool := bits BinOp.and IntKind.i64 k3 5 != 0
/-- A way: from a key, found below such a height, to a place or a fault, through nodes. -/
inductive Way (a b : Shp) (th : Nat → Bool) (vr_ : Nat → Int) (W : Nat → Nat → Value) (th2 : Nat → Bool) (vr2 : Nat → Int) : Int → Int → Int → Int → Int → Int → Int → Bool → List Int → Int → Int → Bool → Int → Prop
  | fault {k0 k1 k2 k3 k4 below addr : Int} {ro : Bool} (s : Int) (t l : Bool) (f : Int) (h0 : 0 ≤ k4) (hs : szP k0 k4 = s ∧ szB k0 k4 = t) (hl : liveB a b th vr_ th2 vr2 k0 k1 k2 = l) (hz : entP s t l k0 k4 below addr = (0, f)) (hf : (f != 0) = true) : Way a b th vr_ W th2 vr2 k0 k1 k2 k3 k4 below addr ro [] 0 0 false f
  | page {k1 k2 k3 k4 below addr : Int} {ro : Bool} (h0 : 0 ≤ k4) (a0 : 0 ≤ addr) (hl : liveB a b th vr_ th2 vr2 3 k1 k2 = true) (ha : addr < 32) : Way a b th vr_ W th2 vr2 3 k1 k2 k3 k4 below addr ro [] k1 addr (ro || roB k3) 0
  | node {k1 k2 k3 k4 below addr : Int} {ro : Bool} {ids : List Int} {pg at_ : Int} {r : Bool} {f : Int} (h i q r' p ad : Nat) (y0 y1 y2 y3 y4 : Int) (hk : k4 = h) (hp : p = 2 * 16 ^ h) (ha : addr = ad) (had : ad = q * p + r') (h1 : 1 ≤ h) (h4 : h ≤ 4) (hl : liveB a b th vr_ th2 vr2 2 k1 k2 = true) (hd : (h : Int) < below) (hi : k1 = i) (hn : i < a.n) (ht : th i = true) (hq : q < 16) (hr : r' < p) (hy : KAt (W i) q y0 y1 y2 y3 y4) (next : Way a b th vr_ W th2 vr2 y0 y1 y2 y3 y4 h r' (ro || roB k3) ids pg at_ r f) : Way a b th vr_ W th2 vr2 2 k1 k2 k3 k4 below addr ro (k1 :: ids) pg at_ r f
/-- A place's cells. -/
structure PlC (w : World) (b : Nat) (x y : Int) (r : Bool) : Prop where
  lt : b < w.heap.size
  c0 : w.cell? ⟨b, 0, none⟩ = some (.int .i64 x)
  c1 : w.cell? ⟨b, 1, none⟩ = some (.int .i64 y)
  c2 : w.cell? ⟨b, 2, none⟩ = some (.bool r)
  fr : ∀ j, w.frozen? ⟨b, j, none⟩ = false
theorem PlC.below {w w' : World} {b : Nat} {x y : Int} {r : Bool} (h : PlC w b x y r) (hb : Below w.heap.size w w') : PlC w' b x y r :=
  ⟨Nat.lt_of_lt_of_le h.lt hb.size, (hb.cell (p := ⟨b, 0, none⟩) h.lt).trans h.c0, (hb.cell (p := ⟨b, 1, none⟩) h.lt).trans h.c1, (hb.cell (p := ⟨b, 2, none⟩) h.lt).trans h.c2, fun j => (hb.frozen (p := ⟨b, j, none⟩) h.lt).trans (h.fr j)⟩
theorem PlC.new (w : World) (x y : Int) (r : Bool) (T : TypeId) : PlC (w.alloc (.cells #[.int .i64 x, .int .i64 y, .bool r] T (0, 0))) w.heap.size x y r := ⟨by simp, by simp, by simp, by simp, fun j => by simp⟩
/-- A stretch of cells apart was written. -/
theorem PlC.far5 {w : World} {b g : Nat} {x y : Int} {r : Bool} (h : PlC w b x y r) (hg : b ≠ g) (z0 z1 z2 z3 z4 : Value) : PlC (((((w.setCell ⟨g, 0, none⟩ z0).setCell ⟨g, 1, none⟩ z1).setCell ⟨g, 2, none⟩ z2).setCell ⟨g, 3, none⟩ z3).setCell ⟨g, 4, none⟩ z4) b x y r := by
  have hb : ∀ (v : World) (j : Nat) (u : Value), (v.setCell ⟨g, j, none⟩ u).heap[b]? = v.heap[b]? := fun v j u => Below.heap_setCell _ _ _ _ (fun e => hg (by simpa using e))
  have e : (((((w.setCell ⟨g, 0, none⟩ z0).setCell ⟨g, 1, none⟩ z1).setCell ⟨g, 2, none⟩ z2).setCell ⟨g, 3, none⟩ z3).setCell ⟨g, 4, none⟩ z4).heap[b]? = w.heap[b]? := by rw [hb, hb, hb, hb, hb]
  exact ⟨by simpa using h.lt, (World.cell?_of_block (a := ⟨b, 0, none⟩) e).trans h.c0, (World.cell?_of_block (a := ⟨b, 1, none⟩) e).trans h.c1, (World.cell?_of_block (a := ⟨b, 2, none⟩) e).trans h.c2, fun j => (World.frozen?_of_block (a := ⟨b, j, none⟩) e).trans (h.fr j)⟩
theorem PlC.set {w : World} {b : Nat} {x y : Int} {r : Bool} (h : PlC w b x y r) (x' y' : Int) (r' : Bool) : PlC (((w.setCell ⟨b, 0, none⟩ (.int .i64 x')).setCell ⟨b, 1, none⟩ (.int .i64 y')).setCell ⟨b, 2, none⟩ (.bool r')) b x' y' r' := by
  have hs : ∀ j, j < [Value.int .i64 x', .int .i64 y', .bool r'].length → (w.cell? ⟨b, 0 + j, none⟩).isSome = true := by
    intro j hj
    have hj' : j = 0 ∨ j = 1 ∨ j = 2 := by simp at hj; omega
    rw [Nat.zero_add]
    rcases hj' with rfl | rfl | rfl
    · rw [h.c0]; rfl
    · rw [h.c1]; rfl
    · rw [h.c2]; rfl
  have all := World.cell?_setCells_in b [Value.int .i64 x', .int .i64 y', .bool r'] 0 w hs
  have hz : (w.setCells b 0 [Value.int .i64 x', .int .i64 y', .bool r']).heap.size = w.heap.size := by simp [World.setCells]
  exact ⟨Nat.lt_of_lt_of_le h.lt (Nat.le_of_eq hz.symm), all 0 (by simp), all 1 (by simp), all 2 (by simp), fun j => (World.frozen?_setCells b [Value.int .i64 x', .int .i64 y', .bool r'] 0 w ⟨b, j, none⟩).trans (h.fr j)⟩
theorem set3_below {N b : Nat} {W0 w : World} (h : Below N W0 w) (hb : N ≤ b) (z0 z1 z2 : Value) : Below N W0 (((w.setCell ⟨b, 0, none⟩ z0).setCell ⟨b, 1, none⟩ z1).setCell ⟨b, 2, none⟩ z2) :=
  ((h.setCell hb _).setCell hb _).setCell hb _
theorem KeyC.new3 (w : World) (o o' : Obj) (k0 k1 k2 k3 k4 : Int) (T : TypeId) : KeyC (((w.alloc o).alloc o').alloc (.cells #[.int .i64 k0, .int .i64 k1, .int .i64 k2, .int .i64 k3, .int .u32 k4] T (0, 0))) (w.heap.size + 1 + 1) k0 k1 k2 k3 k4 := by
  have h := KeyC.new ((w.alloc o).alloc o') k0 k1 k2 k3 k4 T
  rw [show ((w.alloc o).alloc o').heap.size = w.heap.size + 1 + 1 by simp] at h
  exact h
theorem PlC.new2 (w : World) (o o' : Obj) (x y : Int) (r : Bool) (T : TypeId) : PlC (((w.alloc o).alloc (.cells #[.int .i64 x, .int .i64 y, .bool r] T (0, 0))).alloc o') (w.heap.size + 1) x y r := by
  have h := (PlC.new (w.alloc o) x y r T).below ((Below.refl _ _).alloc (Nat.le_refl _) o')
  rw [show (w.alloc o).heap.size = w.heap.size + 1 by simp] at h
  exact h
theorem way_sz (h : Nat) (h1 : 1 ≤ h) (h4 : h ≤ 4) (p : Nat) (hp : p = 2 * 16 ^ h) : szP 2 h = ((16 * p : Nat) : Int) ∧ szB 2 h = true := by
  have h5 : h = 1 ∨ h = 2 ∨ h = 3 ∨ h = 4 := by omega
  subst hp
  rcases h5 with rfl | rfl | rfl | rfl <;> decide
theorem way_lt (q p r : Nat) (hq : q < 16) (hr : r < p) : q * p + r < 16 * p := by
  have : q * p ≤ 15 * p := Nat.mul_le_mul_right p (by omega)
  omega
theorem way_div (q p r : Nat) (hr : r < p) : ((q * p + r : Nat) : Int) / (p : Int) = q := by
  have : (q * p + r) / p = q := by
    rw [Nat.add_comm, Nat.add_mul_div_right _ _ (by omega), Nat.div_eq_of_lt hr, Nat.zero_add]
  omega
theorem way_mod (q p r : Nat) (hr : r < p) : ((q * p + r : Nat) : Int) % (p : Int) = r := by
  have : (q * p + r) % p = r := by
    rw [Nat.add_comm, Nat.add_mul_mod_self_right, Nat.mod_eq_of_lt hr]
  omega
end Go.Proofs.YtncopdhhchmpeaaGreatDoor
namespace Go.Proofs.YtncopdhhchmpeaaGreatDoor
open Go.ChangeShapes Go.WideShapes Go.ChangeAt Go.RowKit
set_option linter.unusedVariables false
/-- A block that is made is a row of one's own. -/
theorem own_box (w : World) (base : Nat) (cs : Array Value) (T : TypeId) (s : Nat) (xs : List Value) (hx : cs.toList = xs) (hs : cs.size = s) (hb : base ≤ w.heap.size) : (w.alloc (.cells cs T (0, 0))).ownsRow base T s (.slice (some ⟨w.heap.size, 0, none⟩) 1 1) 1 xs := by
  refine ⟨by rw [← hx, Array.length_toList, hs, Nat.one_mul], .inr ⟨w.heap.size, 1, cs, rfl, hb, heap_alloc_new _ _, Nat.le_refl _, by unfold maxLen; decide, by rw [hs, Nat.one_mul], ?_⟩⟩
  rw [hx, List.take_of_length_le (by rw [← hx, Array.length_toList, hs, Nat.one_mul]; exact Nat.le_refl _)]
/-- A place. -/
def slW (lv gn : Nat → Bool) (vr ow : Nat → Int) : Nat → Nat → Value := fun i j => if j = 0 then .bool (lv i) else if j = 1 then .bool (gn i) else if j = 2 then .int .i64 (vr i) else .int .i64 (ow i)
theorem infoSlot : (Tryz.prog.info? 197).map (fun i => (i.zero, i.size, i.bytes)) = some (some (.agg #[.bool false, .bool false, .int .i64 0, .int .i64 0]), 4, 24) := by kernel_rfl
theorem slot_at {l : List Value} {a b c d : Value} (hl : l = [a, b, c, d]) (w : World) (T : TypeId) : ∀ j u, l[j]? = some u → (w.alloc (.cells #[a, b, c, d] T (0, 0))).cell? (Addr.add ⟨w.heap.size, 0, none⟩ j) = some u := by
  subst hl
  intro j u hj
  rw [Addr.add_mid, Nat.zero_add]
  simpa using hj
theorem slot_one (x y : Bool) (a b : Int) : ∀ u ∈ [Value.bool x, .bool y, .int .i64 a, .int .i64 b], u.oneCell' = true := by
  intro u hu
  simp at hu
  rcases hu with rfl | rfl | rfl | rfl <;> rfl
theorem flatS_snoc (s : Nat) (h0 : 0 < s) (W : Nat → Nat → Value) (n : Nat) : flatS s W (n + 1) = flatS s W n ++ (List.range s).map (W n) := by
  apply List.ext_getElem?
  intro j
  by_cases hj : j < n * s
  · rw [List.getElem?_append_left (by rw [flatS_len]; exact hj)]
    have h2 : j < (n + 1) * s := by rw [Nat.add_mul, Nat.one_mul]; omega
    simp [flatS, hj, h2]
  · rw [List.getElem?_append_right (by rw [flatS_len]; omega), flatS_len]
    by_cases h2 : j < (n + 1) * s
    · have h3 : j - n * s < s := by rw [Nat.add_mul, Nat.one_mul] at h2; omega
      have e : j = n * s + (j - n * s) := by omega
      have h4 := flatS_at s W (n + 1) n (j - n * s) (by omega) h3
      rw [← e] at h4
      rw [h4]
      simp [h3]
    · rw [List.getElem?_eq_none (by rw [flatS_len]; omega), List.getElem?_eq_none (by rw [Nat.add_mul, Nat.one_mul] at h2; simp; omega)]
set_option maxRecDepth 100000 in
set_option maxHeartbeats 1000000 in
theorem slots_is (x : Int) (n : Nat) (hx : Hid (x = n)) (hn : n ≤ 256) (w : World) :
    Calls Tryz.prog 88 #[.int .i64 x] w fun e w' => ∃ v, e = .returned v ∧ w'.ownsRow w.heap.size 197 4 v n (flatS 4 (slW (fun _ => false) (fun _ => false) (fun _ => 0) (fun _ => -1)) n) ∧ Below w.heap.size w w' := by
  obtain ⟨i0, hi, hz0, hz1, hz2⟩ := info_parts infoSlot
  have HI := Lib.hid (⟨hi, hz0, hz1, hz2⟩ : Tryz.prog.info? 197 = some i0 ∧ i0.zero = some (.agg #[.bool false, .bool false, .int .i64 0, .int .i64 0]) ∧ i0.size = 4 ∧ i0.bytes = 24)
  have e := hx.out
  subst e
  clear hi hz0 hz1 hz2
  go_enter Tryz.func88, Tryz.ntmps88
  go_wp2_with fail
  go_loopw [4, 3] (fun z v wr => ∃ q : Nat, q ≤ n ∧ z = .int .i64 q ∧ wr.ownsRow w.heap.size 197 4 v q (flatS 4 (slW (fun _ => false) (fun _ => false) (fun _ => 0) (fun _ => -1)) q) ∧ Below w.heap.size w wr) (fun z _ _ => n - (intOf z).toNat)
  case atStart => exact ⟨0, by omega, rfl, World.ownsRow_nil _ _ _ _, Below.refl _ _⟩
  case round =>
    obtain ⟨q, hq, rfl, hrow, hb⟩ := hrel
    have HRow := Lib.hid hrow
    have HB := Lib.hid hb
    clear hrow hb
    by_cases hlt : q < n
    · have q0 : (0 : Int) ≤ q := by omega
      have H6 : Hid (q + 1 ≤ maxLen ∧ (q + 1) * 24 ≤ 140737488355328 ∧ ∀ o, w.heap.size ≤ (wr.alloc o).heap.size) := Lib.hid ⟨by unfold maxLen; omega, by omega, fun o => by have := HB.out.size; simp; omega⟩
      go_wp2_with (first
        | (at_builtin; refine wpList_append_own_at _ rfl _ _ 146 rfl w.heap.size 197 i0 (.agg #[.bool false, .bool false, .int .i64 0, .int .i64 0]) 4 24 Tryz.underlying146 HI.out.1 HI.out.2.1 HI.out.2.2.1 HI.out.2.2.2 rfl (by decide) u3 q _ rfl (HRow.out.alloc _) ⟨wr.heap.size, 0, none⟩ 1 1 [.bool false, .bool false, .int .i64 0, .int .i64 (-1)] rfl rfl (slot_at rfl _ _) (slot_one _ _ _ _) H6.out.1 H6.out.2.1 (H6.out.2.2 _) ?_; intro v' w9 hown hgrow hnil hloc; have HOW := Lib.hid hown; have HGR := Lib.hid hgrow; clear hown hgrow hnil hloc))
      go_roundw
      case rel =>
        refine ⟨q + 1, by omega, by go_num, ?_, (HB.out.alloc HB.out.size _).grown HGR.out (H6.out.2.2 _) (fun g hg => (HRow.out.lt g hg).1)⟩
        rw [flatS_snoc 4 (by decide)]
        exact HOW.out
      case measure => simp [intOf]; omega
    · obtain rfl : q = n := by omega
      have hdd : decide (q < q) = false := by simp
      go_wp2_with fail
      go_ret
      exact ⟨_, rfl, HRow.out, HB.out⟩
theorem mk0D (w : World) : (Instr.makeSlice 150 (.int .i64 0) (.int .i64 0)).run Tryz.prog w = .ok (.slice (some ⟨w.heap.size, 0, none⟩) 0 0) (w.alloc (.cells #[] 293)) := by kernel_rfl
theorem mk0M (w : World) : (Instr.makeSlice 151 (.int .i64 0) (.int .i64 0)).run Tryz.prog w = .ok (.slice (some ⟨w.heap.size, 0, none⟩) 0 0) (w.alloc (.cells #[] 295)) := by kernel_rfl
theorem mk0B (w : World) : (Instr.makeSlice 152 (.int .i64 0) (.int .i64 0)).run Tryz.prog w = .ok (.slice (some ⟨w.heap.size, 0, none⟩) 0 0) (w.alloc (.cells #[] 297)) := by kernel_rfl
theorem mk0F (w : World) : (Instr.makeSlice 153 (.int .i64 0) (.int .i64 0)).run Tryz.prog w = .ok (.slice (some ⟨w.heap.size, 0, none⟩) 0 0) (w.alloc (.cells #[] 299)) := by kernel_rfl
theorem flatS_congr' {s n : Nat} {W W' : Nat → Nat → Value} (h0 : 0 < s) (hw : ∀ i j, i < n → j < s → W i j = W' i j) : flatS s W n = flatS s W' n := by
  apply List.ext_getElem?
  intro j
  by_cases hj : j < n * s
  · have h1 : j / s < n := by rw [Nat.div_lt_iff_lt_mul h0]; exact hj
    simp [flatS, hj, hw (j / s) (j % s) h1 (Nat.mod_lt _ h0)]
  · rw [List.getElem?_eq_none (by rw [flatS_len]; omega), List.getElem?_eq_none (by rw [flatS_len]; omega)]
/-- The shape of a system: where it lies; nodes, pages: how many, their places, their cells. -/
structure SyS where
  x : Nat
  n : Nat
  m : Nat
  gN : Nat
  cN : Nat
  gP : Nat
  cP : Nat
  bN : Nat
  bP : Nat
/-- What a system holds: of its nodes' places (there, gone, version, owner), its pages' places, keys, words. -/
structure SyD where
  lN : Nat → Bool
  dN : Nat → Bool
  vN : Nat → Int
  oN : Nat → Int
  lP : Nat → Bool
  dP : Nat → Bool
  vP : Nat → Int
  oP : Nat → Int
  wN : Nat → Nat → Value
  wP : Nat → Nat → Int
def wordsW (f : Nat → Nat → Int) : Nat → Nat → Value := fun i j => .int .u32 (f i j)
structure SyAt (w : World) (base : Nat) (S : SyS) (d : SyD) : Prop where
  xb : base ≤ S.x
  xl : S.x < w.heap.size
  f0 : w.cell? ⟨S.x, 0, none⟩ = some (.slice (some ⟨S.gN, 0, none⟩) S.n S.cN)
  f1 : w.cell? ⟨S.x, 1, none⟩ = some (.slice (some ⟨S.gP, 0, none⟩) S.m S.cP)
  f6 : w.cell? ⟨S.x, 6, none⟩ = some (.slice (some ⟨S.bN, 0, none⟩) S.n S.n)
  f7 : w.cell? ⟨S.x, 7, none⟩ = some (.slice (some ⟨S.bP, 0, none⟩) S.m S.m)
  ns : w.ownsRow base 197 4 (.slice (some ⟨S.gN, 0, none⟩) S.n S.cN) S.n (flatS 4 (slW d.lN d.dN d.vN d.oN) S.n)
  ps : w.ownsRow base 197 4 (.slice (some ⟨S.gP, 0, none⟩) S.m S.cP) S.m (flatS 4 (slW d.lP d.dP d.vP d.oP) S.m)
  nd : w.ownsRow base 163 80 (.slice (some ⟨S.bN, 0, none⟩) S.n S.n) S.n (flatS 80 d.wN S.n)
  pg : w.ownsRow base 179 32 (.slice (some ⟨S.bP, 0, none⟩) S.m S.m) S.m (flatS 32 (wordsW d.wP) S.m)
  ne : S.gN ≠ S.x ∧ S.gP ≠ S.x ∧ S.bN ≠ S.x ∧ S.bP ≠ S.x ∧ S.gN ≠ S.gP ∧ S.gN ≠ S.bN ∧ S.gN ≠ S.bP ∧ S.gP ≠ S.bN ∧ S.gP ≠ S.bP ∧ S.bN ≠ S.bP
section
variable {w w' : World} {base : Nat} {S : SyS} {d : SyD}
theorem SyAt.below (h : SyAt w base S d) (hb : Below w.heap.size w w') : SyAt w' base S d :=
  ⟨h.xb, Nat.lt_of_lt_of_le h.xl hb.size, (hb.cell (p := ⟨S.x, 0, none⟩) h.xl).trans h.f0, (hb.cell (p := ⟨S.x, 1, none⟩) h.xl).trans h.f1, (hb.cell (p := ⟨S.x, 6, none⟩) h.xl).trans h.f6, (hb.cell (p := ⟨S.x, 7, none⟩) h.xl).trans h.f7, own_below h.ns hb, own_below h.ps hb, own_below h.nd hb, own_below h.pg hb, h.ne⟩
theorem own_ne {B E s n g c k : Nat} {xs : List Value} (h : w.ownsRow B E s (.slice (some ⟨g, 0, none⟩) n c) n xs) (hg : w.grownBy w' (some k)) (hne : g ≠ k) : w'.ownsRow B E s (.slice (some ⟨g, 0, none⟩) n c) n xs := h.kept hg (.inr (by simp [Value.ownBlock]; exact hne))
/-- A row apart was written. -/
theorem SyAt.far (h : SyAt w base S d) {k : Nat} (hg : w.grownBy w' (some k)) (h1 : S.x ≠ k ∧ S.gN ≠ k ∧ S.gP ≠ k ∧ S.bN ≠ k ∧ S.bP ≠ k) : SyAt w' base S d := by
  have hx := hg.block S.x h.xl (fun e => h1.1 (by injection e))
  exact ⟨h.xb, Nat.lt_of_lt_of_le h.xl hg.size, (World.cell?_of_block (a := ⟨S.x, 0, none⟩) hx).trans h.f0, (World.cell?_of_block (a := ⟨S.x, 1, none⟩) hx).trans h.f1, (World.cell?_of_block (a := ⟨S.x, 6, none⟩) hx).trans h.f6, (World.cell?_of_block (a := ⟨S.x, 7, none⟩) hx).trans h.f7, own_ne h.ns hg h1.2.1, own_ne h.ps hg h1.2.2.1, own_ne h.nd hg h1.2.2.2.1, own_ne h.pg hg h1.2.2.2.2, h.ne⟩
/-- The pages' places were written. -/
theorem SyAt.slotP (h : SyAt w base S d) (i o : Nat) (hi : i < S.m) (v : Value) (ho : o < 4) (lP dP : Nat → Bool) (vP oP : Nat → Int) (hv : ∀ a b, a < S.m → b < 4 → updS (slW d.lP d.dP d.vP d.oP) i o [v] a b = slW lP dP vP oP a b) :
    SyAt (w.setCell ⟨S.gP, i * 4 + o, none⟩ v) base S { d with lP := lP, dP := dP, vP := vP, oP := oP } ∧ w.grownBy (w.setCell ⟨S.gP, i * 4 + o, none⟩ v) (some S.gP) := by
  have hs := own_setCells [v] (i * 4 + o) _ _ h.ps
  rw [flatS_over 4 _ S.m i o [v] hi (by simp; omega), flatS_congr' (by decide) hv] at hs
  have hx := hs.2.block S.x h.xl (fun e => h.ne.2.1 (by injection e with e; exact e.symm))
  obtain ⟨n1, n2, n3, n4, n5, n6, n7, n8, n9, n10⟩ := h.ne
  exact ⟨⟨h.xb, Nat.lt_of_lt_of_le h.xl hs.2.size, (World.cell?_of_block (a := ⟨S.x, 0, none⟩) hx).trans h.f0, (World.cell?_of_block (a := ⟨S.x, 1, none⟩) hx).trans h.f1, (World.cell?_of_block (a := ⟨S.x, 6, none⟩) hx).trans h.f6, (World.cell?_of_block (a := ⟨S.x, 7, none⟩) hx).trans h.f7, own_ne h.ns hs.2 n5, hs.1, own_ne h.nd hs.2 (Ne.symm n8), own_ne h.pg hs.2 (Ne.symm n9), h.ne⟩, hs.2⟩
/-- A page's words were written. -/
theorem SyAt.words (h : SyAt w base S d) (i o : Nat) (hi : i < S.m) (xs : List Int) (ho : o + xs.length ≤ 32) (wP : Nat → Nat → Int) (hv : ∀ a b, a < S.m → b < 32 → (if a = i ∧ o ≤ b ∧ b < o + xs.length then xs.getD (b - o) 0 else d.wP a b) = wP a b) :
    SyAt (w.setCells S.bP (i * 32 + o) (xs.map (Value.int .u32))) base S { d with wP := wP } ∧ w.grownBy (w.setCells S.bP (i * 32 + o) (xs.map (Value.int .u32))) (some S.bP) := by
  have hs := own_setCells (xs.map (Value.int .u32)) (i * 32 + o) _ _ h.pg
  rw [flatS_over 32 _ S.m i o _ hi (by simpa using ho), flatS_congr' (by decide) (W' := wordsW wP) (fun a b ha hb => by
    have h1 := hv a b ha hb
    unfold wordsW
    rw [← h1]
    unfold updS
    rw [List.length_map]
    by_cases e : a = i ∧ o ≤ b ∧ b < o + xs.length
    · rw [if_pos e, if_pos e]
      have : b - o < xs.length := by omega
      simp [List.getD, this]
    · rw [if_neg e, if_neg e])] at hs
  have hx := hs.2.block S.x h.xl (fun e => h.ne.2.2.2.1 (by injection e with e; exact e.symm))
  obtain ⟨n1, n2, n3, n4, n5, n6, n7, n8, n9, n10⟩ := h.ne
  exact ⟨⟨h.xb, Nat.lt_of_lt_of_le h.xl hs.2.size, (World.cell?_of_block (a := ⟨S.x, 0, none⟩) hx).trans h.f0, (World.cell?_of_block (a := ⟨S.x, 1, none⟩) hx).trans h.f1, (World.cell?_of_block (a := ⟨S.x, 6, none⟩) hx).trans h.f6, (World.cell?_of_block (a := ⟨S.x, 7, none⟩) hx).trans h.f7, own_ne h.ns hs.2 n7, own_ne h.ps hs.2 n9, own_ne h.nd hs.2 n10, hs.1, h.ne⟩, hs.2⟩
theorem SyAt.pslot (h : SyAt w base S d) (i : Nat) (hi : i < S.m) : w.cell? ⟨S.gP, i * 4, none⟩ = some (.bool (d.lP i)) ∧ w.cell? ⟨S.gP, i * 4 + 1, none⟩ = some (.bool (d.dP i)) ∧ w.cell? ⟨S.gP, i * 4 + 2, none⟩ = some (.int .i64 (d.vP i)) := by
  have cell : ∀ q, q < 4 → w.cell? ⟨S.gP, i * 4 + q, none⟩ = some (slW d.lP d.dP d.vP d.oP i q) := fun q hq => by rw [h.ps.cellAt (i * 4 + q) (mid_lt hi hq), flatS_at 4 _ S.m i q hi hq]
  exact ⟨cell 0 (by decide), cell 1 (by decide), cell 2 (by decide)⟩
theorem SyAt.nslot (h : SyAt w base S d) (i : Nat) (hi : i < S.n) : w.cell? ⟨S.gN, i * 4, none⟩ = some (.bool (d.lN i)) ∧ w.cell? ⟨S.gN, i * 4 + 1, none⟩ = some (.bool (d.dN i)) ∧ w.cell? ⟨S.gN, i * 4 + 2, none⟩ = some (.int .i64 (d.vN i)) := by
  have cell : ∀ q, q < 4 → w.cell? ⟨S.gN, i * 4 + q, none⟩ = some (slW d.lN d.dN d.vN d.oN i q) := fun q hq => by rw [h.ns.cellAt (i * 4 + q) (mid_lt hi hq), flatS_at 4 _ S.n i q hi hq]
  exact ⟨cell 0 (by decide), cell 1 (by decide), cell 2 (by decide)⟩
theorem SyAt.pword (h : SyAt w base S d) (i j : Nat) (hi : i < S.m) (hj : j < 32) : w.cell? ⟨S.bP, i * 32 + j, none⟩ = some (.int .u32 (d.wP i j)) := by
  rw [h.pg.cellAt (i * 32 + j) (mid_lt hi hj), flatS_at 32 _ S.m i j hi hj]
  rfl
end
end Go.Proofs.YtncopdhhchmpeaaGreatDoor
namespace Go.Proofs.YtncopdhhchmpeaaGreatDoor
open Go.ChangeShapes Go.WideShapes Go.ChangeAt Go.RowKit
set_option linter.unusedVariables false
theorem own_shape' {w : World} {B E s n : Nat} {v : Value} {xs : List Value} (h : w.ownsRow B E s v n xs) : ∃ a c, v = .slice a n c := by
  rcases h.2 with ⟨rfl, rfl⟩ | ⟨g, cap, cur, rfl, _⟩
  · exact ⟨_, _, rfl⟩
  · exact ⟨_, _, rfl⟩
theorem own_some' {w : World} {B E s n : Nat} {v : Value} {xs : List Value} (h : w.ownsRow B E s v n xs) (hn : 0 < n) : ∃ g c, v = .slice (some ⟨g, 0, none⟩) n c := by
  rcases h.2 with ⟨rfl, rfl⟩ | ⟨g, cap, cur, rfl, _⟩
  · omega
  · exact ⟨_, _, rfl⟩
theorem own_base {w : World} {B B' E s n : Nat} {v : Value} {xs : List Value} (h : w.ownsRow B E s v n xs) (hB : B' ≤ B) : w.ownsRow B' E s v n xs := by
  refine ⟨h.1, ?_⟩
  rcases h.2 with hn | ⟨g1, cap, cur, e, hg, rest⟩
  · exact .inl hn
  · exact .inr ⟨g1, cap, cur, e, Nat.le_trans hB hg, rest⟩
theorem info_some {P : Program} {T : TypeId} (h : ((P.info? T).bind (·.zero)).isSome = true) : ∃ i z, P.info? T = some i ∧ i.zero = some z := by
  cases hi : P.info? T with
  | none => rw [hi] at h; cases h
  | some i =>
    rw [hi] at h
    cases hz : i.zero with
    | none => simp [hz] at h
    | some z => exact ⟨i, z, rfl, hz⟩
theorem grown_any {w w' : World} {g : Nat} (h : w.grownBy w' none) : w.grownBy w' (some g) := ⟨h.os, h.tape, h.output, h.size, fun k hk _ => h.block k hk (by simp)⟩
theorem grown_chain {a b c : World} {g : Nat} (h : a.grownBy b (some g)) (h2 : b.grownBy c (some g)) : a.grownBy c (some g) :=
  ⟨h2.os.trans h.os, h2.tape.trans h.tape, h2.output.trans h.output, Nat.le_trans h.size h2.size, fun k hk hne => (h2.block k (Nat.lt_of_lt_of_le hk h.size) hne).trans (h.block k hk hne)⟩
theorem grown_set1 (v : World) (b j : Nat) (u : Value) : v.grownBy (v.setCell ⟨b, j, none⟩ u) (some b) := ⟨rfl, rfl, rfl, by simp, fun k hk hne => Below.heap_setCell _ _ _ _ (fun e => hne (by simpa using e))⟩
/-- The box of a system that is being made: what was set, and nothing else since. -/
structure SyBx (w6 w : World) (x : Nat) : Prop where
  bel : Below w6.heap.size w6 w
  xe : x = w6.heap.size
  own : ∃ fs, w.ownsRow w6.heap.size 155 16 (.slice (some ⟨x, 0, none⟩) 1 1) 1 fs
section
variable {w6 w w' : World} {x : Nat}
theorem SyBx.next (h : SyBx w6 w x) (j : Nat) (u : Value) (hg : (w.setCell ⟨x, j, none⟩ u).grownBy w' none) : SyBx w6 w' x := by
  obtain ⟨fs, ho⟩ := h.own
  have hx := h.xe
  have hs := ho.stored j u
  exact ⟨(h.bel.grown hs.2 h.bel.size (fun k hk => by injection hk with e; omega)).grown hg (Nat.le_trans h.bel.size hs.2.size) (fun k hk => by cases hk), hx, ⟨_, hs.1.kept hg (.inr (by simp [Value.ownBlock]))⟩⟩
theorem SyBx.cell (h : SyBx w6 w x) (j : Nat) (hj : j < 16) : (∃ v, w.cell? ⟨x, j, none⟩ = some v) ∧ w.frozen? ⟨x, j, none⟩ = false := by
  obtain ⟨fs, ho⟩ := h.own
  refine ⟨?_, ho.frozenAt j⟩
  rw [ho.cellAt j (by omega)]
  have : j < fs.length := by have := ho.1; omega
  exact ⟨_, List.getElem?_eq_getElem this⟩
end
theorem SyBx.lt {w6 w : World} {x : Nat} (h : SyBx w6 w x) : x < w.heap.size := by
  obtain ⟨fs, ho⟩ := h.own
  exact (ho.lt x rfl).2
theorem SyBx.grow {w6 w w' : World} {x : Nat} (h : SyBx w6 w x) (hg : w.grownBy w' none) : SyBx w6 w' x := by
  obtain ⟨fs, ho⟩ := h.own
  exact ⟨h.bel.grown hg h.bel.size (fun k hk => by cases hk), h.xe, ⟨_, ho.kept hg (.inr (by simp [Value.ownBlock]))⟩⟩
def C4 (w : World) (x : Nat) (v0 v1 v6 v7 : Value) : Prop := w.cell? ⟨x, 0, none⟩ = some v0 ∧ w.cell? ⟨x, 1, none⟩ = some v1 ∧ w.cell? ⟨x, 6, none⟩ = some v6 ∧ w.cell? ⟨x, 7, none⟩ = some v7
theorem SyBx.past {w6 w w' : World} {x j k : Nat} {v u : Value} (h : SyBx w6 w x) (hne : j ≠ k) (hv : w.cell? ⟨x, j, none⟩ = some v) (hg : (w.setCell ⟨x, k, none⟩ u).grownBy w' none) : w'.cell? ⟨x, j, none⟩ = some v := by
  have hb := hg.block x (by have := h.lt; simpa using this) (by simp)
  rw [World.cell?_of_block (a := ⟨x, j, none⟩) hb, World.cell?_setCell_other _ _ _ _ (by intro e; injection e with _ e2; exact hne (by omega)), hv]
theorem SyBx.same {w6 w w' : World} {x k : Nat} {u : Value} (h : SyBx w6 w x) (hk : k < 16) (hg : (w.setCell ⟨x, k, none⟩ u).grownBy w' none) : w'.cell? ⟨x, k, none⟩ = some u := by
  have hb := hg.block x (by have := h.lt; simpa using this) (by simp)
  obtain ⟨⟨v, hv⟩, _⟩ := h.cell k hk
  rw [World.cell?_of_block (a := ⟨x, k, none⟩) hb]
  exact World.cell?_setCell_same _ _ _ hv
theorem C4.next {w6 w w' : World} {x k : Nat} {v0 v1 v6 v7 u : Value} (hT : C4 w x v0 v1 v6 v7) (h : SyBx w6 w x) (hk : 8 ≤ k) (hg : (w.setCell ⟨x, k, none⟩ u).grownBy w' none) : C4 w' x v0 v1 v6 v7 :=
  ⟨h.past (by omega) hT.1 hg, h.past (by omega) hT.2.1 hg, h.past (by omega) hT.2.2.1 hg, h.past (by omega) hT.2.2.2 hg⟩
theorem grown_none (w : World) : w.grownBy w none := ⟨rfl, rfl, rfl, Nat.le_refl _, fun _ _ _ => rfl⟩
set_option maxRecDepth 100000 in
set_option maxHeartbeats 4000000 in
theorem sysnew_is (a0 a1 : Int) (n m : Nat) (hn : Hid (a0 = n ∧ a1 = m)) (n1 : 1 ≤ n) (n2 : n ≤ 256) (m1 : 1 ≤ m) (m2 : m ≤ 256) (w : World) :
    Calls Tryz.prog 47 #[.int .i64 a0, .int .i64 a1, .int .i64 0, .int .i64 0, .int .i64 0, .int .i64 0] w fun e w' => ∃ S : SyS, e = .returned (.pointer (some ⟨S.x, 0, none⟩)) ∧ SyAt w' w.heap.size S ⟨fun _ => false, fun _ => false, fun _ => 0, fun _ => -1, fun _ => false, fun _ => false, fun _ => 0, fun _ => -1, fun _ b => zc b, fun _ _ => 0⟩ ∧ Hid (S.n = n ∧ S.m = m) ∧ Below w.heap.size w w' := by
  obtain ⟨e1, e2⟩ := hn.out
  subst e1 e2
  obtain ⟨i0, hi, hz0, hz1, hz2⟩ := info_parts infoSlots
  have HI := Lib.hid (⟨hi, hz0, hz1, hz2⟩ : Tryz.prog.info? 163 = some i0 ∧ i0.zero = some (.agg zs80.toArray) ∧ i0.size = 80 ∧ i0.bytes = 640)
  clear hi hz0 hz1 hz2
  obtain ⟨i1, hi, hz0, hz1, hz2⟩ := info_parts infoSheet
  have HJ := Lib.hid (⟨hi, hz0, hz1, hz2⟩ : Tryz.prog.info? 179 = some i1 ∧ i1.zero = some (.agg (Array.replicate 32 (.int .u32 0))) ∧ i1.size = 32 ∧ i1.bytes = 128)
  clear hi hz0 hz1 hz2
  go_enter Tryz.func47, Tryz.ntmps47
  obtain ⟨iD, zzD, hiD⟩ := info_some (P := Tryz.prog) (T := 293) (by kernel_rfl)
  have HDm := Lib.hid hiD
  clear hiD
  obtain ⟨iM, zzM, hiM⟩ := info_some (P := Tryz.prog) (T := 295) (by kernel_rfl)
  have HMm := Lib.hid hiM
  clear hiM
  obtain ⟨iB, zzB, hiB⟩ := info_some (P := Tryz.prog) (T := 297) (by kernel_rfl)
  have HBm := Lib.hid hiB
  clear hiB
  obtain ⟨iF, zzF, hiF⟩ := info_some (P := Tryz.prog) (T := 299) (by kernel_rfl)
  have HFm := Lib.hid hiF
  clear hiF
  go_upto_region 2 with (first
    | (go_at_call 88; (with_reducible refine (slots_is (n : Int) n (Lib.hid rfl) n2 _).mono ?_); rintro e w1 ⟨v1, rfl, hr, hb⟩; obtain ⟨gN, cN, rfl⟩ := own_some' hr (by omega); have HR1 := Lib.hid hr; have HB1 := Lib.hid hb; clear hr hb)
    | (go_at_call 88; (with_reducible refine (slots_is (m : Int) m (Lib.hid rfl) m2 _).mono ?_); rintro e w2 ⟨v2, rfl, hr, hb⟩; obtain ⟨gP, cP, rfl⟩ := own_some' hr (by omega); have HR2 := Lib.hid hr; have HB2 := Lib.hid hb; have HZ2 : Hid (Below w2.heap.size w2 w2) := Lib.hid (Below.refl _ _); clear hr hb)
    | (go_at_call 88; (with_reducible refine (slots_is 0 0 (Lib.hid rfl) (Nat.zero_le _) w2).mono ?_); rintro e w3 ⟨v, rfl, hr, hb⟩; obtain ⟨a3, c3, rfl⟩ := own_shape' hr; have HZ3 := Lib.hid (HZ2.out.trans (hb.mono HZ2.out.size)); clear hr hb)
    | (go_at_call 88; (with_reducible refine (slots_is 0 0 (Lib.hid rfl) (Nat.zero_le _) w3).mono ?_); rintro e w4 ⟨v, rfl, hr, hb⟩; obtain ⟨a4, c4, rfl⟩ := own_shape' hr; have HZ4 := Lib.hid (HZ3.out.trans (hb.mono HZ3.out.size)); clear hr hb)
    | (go_at_call 88; (with_reducible refine (slots_is 0 0 (Lib.hid rfl) (Nat.zero_le _) w4).mono ?_); rintro e w5 ⟨v, rfl, hr, hb⟩; obtain ⟨a5, c5, rfl⟩ := own_shape' hr; have HZ5 := Lib.hid (HZ4.out.trans (hb.mono HZ4.out.size)); clear hr hb)
    | (go_at_call 88; (with_reducible refine (slots_is 0 0 (Lib.hid rfl) (Nat.zero_le _) w5).mono ?_); rintro e w6 ⟨v, rfl, hr, hb⟩; obtain ⟨a6, c6, rfl⟩ := own_shape' hr; have HZ6 := Lib.hid (HZ5.out.trans (hb.mono HZ5.out.size)); clear hr hb))
  obtain ⟨w7, hw7⟩ : ∃ w7, w7 = w6.alloc (.cells #[.slice (some ⟨gN, 0, none⟩) n cN, .slice (some ⟨gP, 0, none⟩) m cP, .slice a3 0 c3, .slice a4 0 c4, .slice a5 0 c5, .slice a6 0 c6, .slice none 0 0, .slice none 0 0, .slice none 0 0, .slice none 0 0, .slice none 0 0, .slice none 0 0, .slice none 0 0, .slice none 0 0, .slice none 0 0, .int .i64 0] 155 (0, 0)) := ⟨_, rfl⟩
  have HX7 : Hid (SyBx w6 w7 w6.heap.size) := Lib.hid (by
    rw [hw7]
    exact ⟨(Below.refl _ _).alloc (Nat.le_refl _) _, rfl, ⟨_, own_box w6 _ _ _ 16 _ rfl rfl (Nat.le_refl _)⟩⟩)
  have HC7 : Hid (w7.cell? ⟨w6.heap.size, 0, none⟩ = some (.slice (some ⟨gN, 0, none⟩) n cN) ∧ w7.cell? ⟨w6.heap.size, 1, none⟩ = some (.slice (some ⟨gP, 0, none⟩) m cP)) := Lib.hid (by rw [hw7]; exact ⟨by simp, by simp⟩)
  have HL7 : Hid (w.heap.size ≤ w7.heap.size ∧ w6.heap.size ≤ w7.heap.size) := Lib.hid (by
    have h1 := HB1.out.size
    have h2 := HB2.out.size
    have h3 := HZ6.out.size
    have h7 := HX7.out.bel.size
    omega)
  have Hb80 : Hid (i0.bytes * n ≤ 281474976710656) := Lib.hid (by rw [HI.out.2.2.2]; omega)
  have Hb32 : Hid (i1.bytes * m ≤ 281474976710656) := Lib.hid (by rw [HJ.out.2.2.2]; omega)
  have HLn : Hid (n ≤ maxLen ∧ m ≤ maxLen) := Lib.hid (by unfold maxLen; omega)
  rw [← hw7]
  clear hw7
  go_wp2_with (first
    | (at_make; refine wpList_make_full _ rfl _ _ 148 rfl w.heap.size 163 i0 (.agg zs80.toArray) 80 Tryz.underlying148 HI.out.1 HI.out.2.1 HI.out.2.2.1 .i64 .i64 _ _ n rfl rfl rfl rfl Hb80.out HLn.out.1 HL7.out.1 ?_; intro w8 hown hgrow; have HN8 : Hid (w8.ownsRow w.heap.size 163 80 (.slice (some ⟨w7.heap.size, 0, none⟩) n n) n (flatS 80 (fun _ b => zc b) n)) := Lib.hid (by rw [show flatS 80 (fun _ b => zc b) n = flatV (fun _ b => zc b) n from rfl, ← flatV_made]; exact hown); have HX8 := Lib.hid (HX7.out.grow hgrow); have G78 := Lib.hid (grown_any (g := w6.heap.size) hgrow); have G78b : Hid (w8.heap[w6.heap.size]? = w7.heap[w6.heap.size]?) := Lib.hid (hgrow.block w6.heap.size HX7.out.lt (by simp)); obtain ⟨⟨u6, u6_⟩, z6⟩ := HX8.out.cell 6 (by decide); clear hown hgrow)
    | (at_make; refine wpList_make_full _ rfl _ _ 149 rfl w.heap.size 179 i1 (.agg (Array.replicate 32 (.int .u32 0))) 32 Tryz.underlying149 HJ.out.1 HJ.out.2.1 HJ.out.2.2.1 .i64 .i64 _ _ m rfl rfl rfl rfl Hb32.out HLn.out.2 (Nat.le_trans HL7.out.1 (Nat.le_trans G78.out.size (by simp))) ?_))
  intro w9 hown hgrow
  have e9 : (w8.setCell ⟨w6.heap.size, 6, none⟩ (.slice (some ⟨w7.heap.size, 0, none⟩) n n)).heap.size = w8.heap.size := by simp
  have HP9 : Hid (w9.ownsRow w.heap.size 179 32 (.slice (some ⟨w8.heap.size, 0, none⟩) m m) m (flatS 32 (wordsW fun _ _ => 0) m)) := Lib.hid (by rw [show flatS 32 (wordsW fun _ _ => 0) m = flat (fun _ _ => 0) m from rfl, ← flat_made]; exact hown)
  have HX9 := Lib.hid (HX8.out.next 6 _ hgrow)
  have G89 := Lib.hid (grown_chain (grown_set1 w8 w6.heap.size 6 (.slice (some ⟨w7.heap.size, 0, none⟩) n n)) (grown_any hgrow))
  have G99 : Hid (w9.grownBy w9 (some w6.heap.size)) := Lib.hid ⟨rfl, rfl, rfl, Nat.le_refl _, fun _ _ _ => rfl⟩
  have HC8 : Hid (w8.cell? ⟨w6.heap.size, 0, none⟩ = some (.slice (some ⟨gN, 0, none⟩) n cN) ∧ w8.cell? ⟨w6.heap.size, 1, none⟩ = some (.slice (some ⟨gP, 0, none⟩) m cP)) := Lib.hid (by
    exact ⟨(World.cell?_of_block (a := ⟨w6.heap.size, 0, none⟩) G78b.out).trans HC7.out.1, (World.cell?_of_block (a := ⟨w6.heap.size, 1, none⟩) G78b.out).trans HC7.out.2⟩)
  have S9 : Hid (w9.cell? ⟨w6.heap.size, 0, none⟩ = some (.slice (some ⟨gN, 0, none⟩) n cN) ∧ w9.cell? ⟨w6.heap.size, 1, none⟩ = some (.slice (some ⟨gP, 0, none⟩) m cP) ∧ w9.cell? ⟨w6.heap.size, 6, none⟩ = some (.slice (some ⟨w7.heap.size, 0, none⟩) n n)) := Lib.hid ⟨HX8.out.past (by decide) HC8.out.1 hgrow, HX8.out.past (by decide) HC8.out.2 hgrow, HX8.out.same (by decide) hgrow⟩
  obtain ⟨⟨u7, c7'⟩, z7⟩ := HX9.out.cell 7 (by decide)
  clear hown hgrow e9
  go_wp2_with (first
    | (at_make; refine wpList_make_full _ rfl _ _ 150 rfl 0 293 iD zzD iD.size Tryz.underlying150 HDm.out.1 HDm.out.2 rfl .i64 .i64 _ _ 0 rfl rfl rfl rfl (by rw [Nat.mul_zero]; exact Nat.zero_le _) (Nat.zero_le _) (Nat.zero_le _) ?_; intro w10 hown hgrow; have HX10 := Lib.hid (HX9.out.next 7 _ hgrow); have G910 := Lib.hid (grown_chain G99.out (grown_chain (grown_set1 _ w6.heap.size 7 _) (grown_any hgrow))); have T10 : Hid (C4 w10 w6.heap.size _ _ _ _) := Lib.hid ⟨HX9.out.past (by decide) S9.out.1 hgrow, HX9.out.past (by decide) S9.out.2.1 hgrow, HX9.out.past (by decide) S9.out.2.2 hgrow, HX9.out.same (by decide) hgrow⟩; obtain ⟨⟨u8, c8⟩, z8⟩ := HX10.out.cell 8 (by decide); clear hown hgrow)
    | (at_make; refine wpList_make_full _ rfl _ _ 151 rfl 0 295 iM zzM iM.size Tryz.underlying151 HMm.out.1 HMm.out.2 rfl .i64 .i64 _ _ 0 rfl rfl rfl rfl (by rw [Nat.mul_zero]; exact Nat.zero_le _) (Nat.zero_le _) (Nat.zero_le _) ?_; intro w11 hown hgrow; have HX11 := Lib.hid (HX10.out.next 8 _ hgrow); have G911 := Lib.hid (grown_chain G910.out (grown_chain (grown_set1 _ w6.heap.size 8 _) (grown_any hgrow))); have T11 := Lib.hid (T10.out.next HX10.out (by decide) hgrow); obtain ⟨⟨u9, c9⟩, z9⟩ := HX11.out.cell 9 (by decide); clear hown hgrow)
    | (at_make; refine wpList_make_full _ rfl _ _ 152 rfl 0 297 iB zzB iB.size Tryz.underlying152 HBm.out.1 HBm.out.2 rfl .i64 .i64 _ _ 0 rfl rfl rfl rfl (by rw [Nat.mul_zero]; exact Nat.zero_le _) (Nat.zero_le _) (Nat.zero_le _) ?_; intro w12 hown hgrow; have HX12 := Lib.hid (HX11.out.next 9 _ hgrow); have G912 := Lib.hid (grown_chain G911.out (grown_chain (grown_set1 _ w6.heap.size 9 _) (grown_any hgrow))); have T12 := Lib.hid (T11.out.next HX11.out (by decide) hgrow); obtain ⟨⟨u10, c10⟩, z10⟩ := HX12.out.cell 10 (by decide); clear hown hgrow)
    | (at_make; refine wpList_make_full _ rfl _ _ 153 rfl 0 299 iF zzF iF.size Tryz.underlying153 HFm.out.1 HFm.out.2 rfl .i64 .i64 _ _ 0 rfl rfl rfl rfl (by rw [Nat.mul_zero]; exact Nat.zero_le _) (Nat.zero_le _) (Nat.zero_le _) ?_; intro w13 hown hgrow; have HX13 := Lib.hid (HX12.out.next 10 _ hgrow); have G913 := Lib.hid (grown_chain G912.out (grown_chain (grown_set1 _ w6.heap.size 10 _) (grown_any hgrow))); have T13 := Lib.hid (T12.out.next HX12.out (by decide) hgrow); obtain ⟨⟨u11, c11⟩, z11⟩ := HX13.out.cell 11 (by decide); clear hown hgrow))
  go_ret
  have hlast := grown_none (w13.setCell ⟨w6.heap.size, 11, none⟩ (.slice (some ⟨w12.heap.size, 0, none⟩) 0 0))
  have T14 := T13.out.next HX13.out (by decide) hlast
  have HX14 := HX13.out.next 11 _ hlast
  have G914 := grown_chain G913.out (grown_set1 w13 w6.heap.size 11 (.slice (some ⟨w12.heap.size, 0, none⟩) 0 0))
  have b1 := HB1.out.size
  have b2 := HB2.out.size
  have b6 := HZ6.out.size
  have x8 := HX8.out.lt
  have l1 := HR1.out.lt gN rfl
  have l2 := HR2.out.lt gP rfl
  have l3 := (HN8.out.lt w7.heap.size rfl)
  have l4 := (HP9.out.lt w8.heap.size rfl)
  have x7 := HX7.out.lt
  have hNS := own_below (own_below (own_below HR1.out HB2.out) (HZ6.out.mono (Nat.le_refl _))) HX14.bel
  have hPS := own_below (own_below HR2.out HZ6.out) HX14.bel
  have hND := own_ne HN8.out (grown_chain G89.out G914) (by omega)
  have hPG := own_ne HP9.out G914 (by omega)
  refine ⟨⟨w6.heap.size, n, m, gN, cN, gP, cP, w7.heap.size, w8.heap.size⟩, rfl, ⟨by show w.heap.size ≤ w6.heap.size; omega, HX14.lt, T14.1, T14.2.1, T14.2.2.1, T14.2.2.2, hNS, own_base hPS (by omega), hND, hPG, ?_⟩, Lib.hid ⟨rfl, rfl⟩, ?_⟩
  · simp only
    refine ⟨by omega, by omega, by omega, by omega, by omega, by omega, by omega, by omega, by omega, by omega⟩
  · exact (HB1.out.trans (HB2.out.mono b1)).trans ((HZ6.out.trans (HX14.bel.mono b6)).mono (by omega))
end Go.Proofs.YtncopdhhchmpeaaGreatDoor
namespace Go.Proofs.YtncopdhhchmpeaaGreatDoor
open Go.ChangeShapes Go.WideShapes Go.ChangeAt Go.RowKit
set_option linter.unusedVariables false
theorem zw_list : ((#[Value.int .u32 0, Value.int .u32 0, Value.int .u32 0, Value.int .u32 0, Value.int .u32 0, Value.int .u32 0, Value.int .u32 0, Value.int .u32 0, Value.int .u32 0, Value.int .u32 0, Value.int .u32 0, Value.int .u32 0, Value.int .u32 0, Value.int .u32 0, Value.int .u32 0, Value.int .u32 0, Value.int .u32 0, Value.int .u32 0, Value.int .u32 0, Value.int .u32 0, Value.int .u32 0, Value.int .u32 0, Value.int .u32 0, Value.int .u32 0, Value.int .u32 0, Value.int .u32 0, Value.int .u32 0, Value.int .u32 0, Value.int .u32 0, Value.int .u32 0, Value.int .u32 0, Value.int .u32 0] : Array Value)).toList = (List.replicate 32 (0 : Int)).map (Value.int .u32) := by kernel_rfl
theorem zw_one : ((#[Value.int .u32 0, Value.int .u32 0, Value.int .u32 0, Value.int .u32 0, Value.int .u32 0, Value.int .u32 0, Value.int .u32 0, Value.int .u32 0, Value.int .u32 0, Value.int .u32 0, Value.int .u32 0, Value.int .u32 0, Value.int .u32 0, Value.int .u32 0, Value.int .u32 0, Value.int .u32 0, Value.int .u32 0, Value.int .u32 0, Value.int .u32 0, Value.int .u32 0, Value.int .u32 0, Value.int .u32 0, Value.int .u32 0, Value.int .u32 0, Value.int .u32 0, Value.int .u32 0, Value.int .u32 0, Value.int .u32 0, Value.int .u32 0, Value.int .u32 0, Value.int .u32 0, Value.int .u32 0] : Array Value)).all (·.oneCell') = true := by kernel_rfl
theorem infoZW : (Tryz.prog.info? 179).map (·.size) = some ((#[Value.int .u32 0, Value.int .u32 0, Value.int .u32 0, Value.int .u32 0, Value.int .u32 0, Value.int .u32 0, Value.int .u32 0, Value.int .u32 0, Value.int .u32 0, Value.int .u32 0, Value.int .u32 0, Value.int .u32 0, Value.int .u32 0, Value.int .u32 0, Value.int .u32 0, Value.int .u32 0, Value.int .u32 0, Value.int .u32 0, Value.int .u32 0, Value.int .u32 0, Value.int .u32 0, Value.int .u32 0, Value.int .u32 0, Value.int .u32 0, Value.int .u32 0, Value.int .u32 0, Value.int .u32 0, Value.int .u32 0, Value.int .u32 0, Value.int .u32 0, Value.int .u32 0, Value.int .u32 0] : Array Value)).size := by kernel_rfl
/-- A page with its first k of two words. -/
def pg2 (W : Nat → Nat → Int) (j : Nat) (x y : Int) (k : Nat) : Nat → Nat → Int := fun a b => if a = j then (if b = 0 ∧ 0 < k then x else if b = 1 ∧ 1 < k then y else 0) else W a b
theorem pg2_zero (W : Nat → Nat → Int) (j : Nat) (x y : Int) (a b : Nat) (hb : b < 32) : (if a = j ∧ 0 ≤ b ∧ b < 0 + (List.replicate 32 (0 : Int)).length then (List.replicate 32 (0 : Int)).getD (b - 0) 0 else W a b) = pg2 W j x y 0 a b := by
  unfold pg2
  rw [List.length_replicate]
  by_cases e : a = j
  · rw [if_pos ⟨e, Nat.zero_le _, by omega⟩, if_pos e, if_neg (by omega), if_neg (by omega), List.getD_eq_getElem?_getD, List.getElem?_replicate]
    split <;> rfl
  · rw [if_neg (fun h => e h.1), if_neg e]
theorem pg2_one (W : Nat → Nat → Int) (j : Nat) (x y : Int) (a b : Nat) : (if a = j ∧ 0 ≤ b ∧ b < 0 + [x].length then [x].getD (b - 0) 0 else pg2 W j x y 0 a b) = pg2 W j x y 1 a b := by
  unfold pg2
  have hl : [x].length = 1 := rfl
  rw [hl]
  by_cases e : a = j
  · by_cases h0 : b = 0
    · subst h0
      rw [if_pos ⟨e, Nat.le_refl _, by omega⟩, if_pos e, if_pos ⟨rfl, by decide⟩]
      rfl
    · rw [if_neg (by omega), if_pos e, if_neg (by omega), if_neg (by omega), if_pos e, if_neg (by omega), if_neg (by omega)]
  · rw [if_neg (fun h => e h.1), if_neg e, if_neg e]
theorem pg2_two (W : Nat → Nat → Int) (j : Nat) (x y : Int) (a b : Nat) : (if a = j ∧ 1 ≤ b ∧ b < 1 + [y].length then [y].getD (b - 1) 0 else pg2 W j x y 1 a b) = pg2 W j x y 2 a b := by
  unfold pg2
  have hl : [y].length = 1 := rfl
  rw [hl]
  by_cases e : a = j
  · by_cases h1 : b = 1
    · subst h1
      rw [if_pos ⟨e, Nat.le_refl _, by omega⟩, if_pos e, if_neg (by omega), if_pos ⟨rfl, by decide⟩]
      rfl
    · rw [if_neg (by omega), if_pos e, if_pos e]
      by_cases h0 : b = 0
      · rw [if_pos ⟨h0, by decide⟩, if_pos ⟨h0, by decide⟩]
      · rw [if_neg (fun h => h0 h.1), if_neg (by omega), if_neg (fun h => h0 h.1), if_neg (fun h => h1 h.1)]
  · rw [if_neg (fun h => e h.1), if_neg e, if_neg e]
theorem slW_live (lv gn : Nat → Bool) (vr ow : Nat → Int) (j : Nat) (t : Bool) (a b : Nat) : updS (slW lv gn vr ow) j 0 [.bool t] a b = slW (upd lv j t) gn vr ow a b := by
  by_cases h : a = j ∧ b = 0
  · obtain ⟨rfl, rfl⟩ := h
    simp [updS, slW, upd]
  · rw [updS_other _ _ _ _ _ _ (by simp; omega)]
    unfold slW
    by_cases hb : b = 0
    · rw [if_pos hb, if_pos hb, upd_other _ _ _ _ (fun e => h ⟨e, hb⟩)]
    · rw [if_neg hb, if_neg hb]
theorem SyAt.there {w : World} {base : Nat} {S : SyS} {d : SyD} (h : SyAt w base S d) (i : Nat) (hi : i < S.m) : w.there S.bP (i * 32) 32 := fun j hj => by
  rw [h.pword i j hi hj]
  exact ⟨rfl, h.pg.frozenAt _⟩
end Go.Proofs.YtncopdhhchmpeaaGreatDoor
namespace Go.Proofs.YtncopdhhchmpeaaGreatDoor
open Go.ChangeShapes Go.WideShapes Go.ChangeAt Go.RowKit
set_option linter.unusedVariables false
theorem pbel_box {w1 w2 : World} {B G : Nat} {b : Nat} (h : PBelow w1 w2 B G) (hb : b < w1.heap.size) (h1 : b ≠ B) (h2 : b ≠ G) : (∀ o, w2.cell? ⟨b, o, none⟩ = w1.cell? ⟨b, o, none⟩) ∧ ∀ o, w2.frozen? ⟨b, o, none⟩ = w1.frozen? ⟨b, o, none⟩ := by
  have e := h.2.2.2.2 b hb h1 h2
  exact ⟨fun o => World.cell?_of_block (a := ⟨b, o, none⟩) e, fun o => World.frozen?_of_block (a := ⟨b, o, none⟩) e⟩
theorem pbel_set5 {w w1 : World} {B G : Nat} (h : PBelow w w1 B G) (b : Nat) (hb : w.heap.size ≤ b) (z0 z1 z2 z3 z4 : Value) : PBelow w (((((w1.setCell ⟨b, 0, none⟩ z0).setCell ⟨b, 1, none⟩ z1).setCell ⟨b, 2, none⟩ z2).setCell ⟨b, 3, none⟩ z3).setCell ⟨b, 4, none⟩ z4) B G := by
  have hg : ∀ (v : World) (j : Nat) (u : Value), PBelow w v B G → PBelow w (v.setCell ⟨b, j, none⟩ u) B G := fun v j u hv => by
    refine ⟨hv.1, hv.2.1, hv.2.2.1, by simpa using hv.2.2.2.1, fun k hk h1 h2 => ?_⟩
    rw [Below.heap_setCell _ _ _ _ (by simp; omega)]
    exact hv.2.2.2.2 k hk h1 h2
  exact hg _ _ _ (hg _ _ _ (hg _ _ _ (hg _ _ _ (hg _ _ _ h))))
theorem gset5 (w : World) (b i : Nat) (v : Value) : w.grownBy (w.setCell ⟨b, i, none⟩ v) (some b) := ⟨rfl, rfl, rfl, by simp [World.setCell], fun k hk hne => Below.heap_setCell _ _ _ _ (fun e => hne (by rw [show k = b from by simpa using e]))⟩
theorem sy_set5 {w : World} {base : Nat} {S : SyS} {d : SyD} (h : SyAt w base S d) (b : Nat) (hb : S.x ≠ b ∧ S.gN ≠ b ∧ S.gP ≠ b ∧ S.bN ≠ b ∧ S.bP ≠ b) (z0 z1 z2 z3 z4 : Value) : SyAt (((((w.setCell ⟨b, 0, none⟩ z0).setCell ⟨b, 1, none⟩ z1).setCell ⟨b, 2, none⟩ z2).setCell ⟨b, 3, none⟩ z3).setCell ⟨b, 4, none⟩ z4) base S d :=
  ((((h.far (gset5 _ _ _ _) hb).far (gset5 _ _ _ _) hb).far (gset5 _ _ _ _) hb).far (gset5 _ _ _ _) hb).far (gset5 _ _ _ _) hb
end Go.Proofs.YtncopdhhchmpeaaGreatDoor
namespace Go.Proofs.YtncopdhhchmpeaaGreatDoor
open Go.ChangeShapes Go.WideShapes Go.ChangeAt Go.RowKit
set_option linter.unusedVariables false
/-- Which pages are there. -/
def th9 (k : Nat) : Nat → Bool := if k = 0 then fun _ => false else upd (fun _ => false) 0 true
theorem th9_0 : th9 0 = fun _ => false := if_pos rfl
theorem th9_s (k : Nat) (h : 0 < k) : th9 k = upd (fun _ => false) 0 true := if_neg (by omega)
theorem srcu_page {w : World} {base : Nat} {S : SyS} {d : SyD} (h : SyAt w base S d) (i : Nat) (hi : i < S.m) (xs : List Int) (hx : xs = (List.range 32).map (d.wP i)) (B G : Nat) (h1 : S.bP ≠ B) (h2 : S.bP ≠ G) : SrcU w (some ⟨S.bP, i * 32, none⟩) xs B G := ⟨fun j hj => by
  subst hx
  have hj' : j < 32 := by simpa using hj
  refine ⟨_, rfl, (h.pg.lt S.bP rfl).2, h1, h2, ?_⟩
  have := h.pword i j hi hj'
  rw [Addr.add_mid]
  simpa [hj'] using this⟩
theorem KeyC.same {w w' : World} {b : Nat} {k0 k1 k2 k3 k4 : Int} (h : KeyC w b k0 k1 k2 k3 k4) (hs : w.heap.size ≤ w'.heap.size) (hb : w'.heap[b]? = w.heap[b]?) : KeyC w' b k0 k1 k2 k3 k4 :=
  ⟨Nat.lt_of_lt_of_le h.lt hs, (World.cell?_of_block (a := ⟨b, 0, none⟩) hb).trans h.c0, (World.cell?_of_block (a := ⟨b, 1, none⟩) hb).trans h.c1, (World.cell?_of_block (a := ⟨b, 2, none⟩) hb).trans h.c2, (World.cell?_of_block (a := ⟨b, 3, none⟩) hb).trans h.c3, (World.cell?_of_block (a := ⟨b, 4, none⟩) hb).trans h.c4, fun j => (World.frozen?_of_block (a := ⟨b, j, none⟩) hb).trans (h.fr j)⟩
section
variable {w w' : World} {S : Nat} {a b : Shp} {th : Nat → Bool} {vr_ : Nat → Int} {W : Nat → Nat → Value} {th2 : Nat → Bool} {vr2 : Nat → Int} {W2 : Nat → Nat → Int}
/-- What is written below a store leaves it. -/
theorem StAt.low (h : (StAt w S a b th vr_ W th2 vr2 W2)) (hs : w.heap.size ≤ w'.heap.size) (hk : ∀ k, a.b ≤ k → k < w.heap.size → w'.heap[k]? = w.heap[k]?) : (StAt w' S a b th vr_ W th2 vr2 W2) := by
  have hS := hk S (Nat.le_trans h.ab h.hs.1) h.sl
  have g1 := h.nd.ar.lt
  have g2 := h.nd.row.lt a.G rfl
  have g3 := h.pg.ar.lt
  have g4 := h.pg.row.lt b.G rfl
  have g5 := h.ab
  refine ⟨(World.cell?_of_block (a := ⟨S, 0, none⟩) hS).trans h.s0, (World.cell?_of_block (a := ⟨S, 1, none⟩) hS).trans h.s1, Nat.lt_of_lt_of_le h.sl hs, ?_, ?_, h.ab, h.hi, h.hs⟩
  · exact h.nd.same hs (hk _ h.nd.pb h.nd.pl) (hk _ h.nd.ar.pb h.nd.ar.pl) (hk _ g1.1 g1.2) (hk _ g2.1 g2.2)
  · exact h.pg.same hs (hk _ (Nat.le_trans g5 h.pg.pb) h.pg.pl) (hk _ (Nat.le_trans g5 h.pg.ar.pb) h.pg.ar.pl) (hk _ (Nat.le_trans g5 g3.1) g3.2) (hk _ (Nat.le_trans g5 g4.1) g4.2)
theorem StAt.low5 (h : (StAt w S a b th vr_ W th2 vr2 W2)) (g : Nat) (hg : g < a.b) (z0 z1 z2 z3 z4 : Int) : (StAt (((((w.setCell ⟨g, 0, none⟩ (.int .i64 z0)).setCell ⟨g, 1, none⟩ (.int .i64 z1)).setCell ⟨g, 2, none⟩ (.int .i64 z2)).setCell ⟨g, 3, none⟩ (.int .i64 z3)).setCell ⟨g, 4, none⟩ (.int .u32 z4)) S a b th vr_ W th2 vr2 W2) := by
  refine h.low (by simp) (fun k hk _ => ?_)
  have hb : ∀ (v : World) (j : Nat) (u : Value), (v.setCell ⟨g, j, none⟩ u).heap[k]? = v.heap[k]? := fun v j u => Below.heap_setCell _ _ _ _ (Nat.ne_of_gt (Nat.lt_of_lt_of_le hg hk))
  rw [hb, hb, hb, hb, hb]
end
end Go.Proofs.YtncopdhhchmpeaaGreatDoor
namespace Go.Proofs.YtncopdhhchmpeaaGreatDoor
open Go.ChangeShapes Go.WideShapes Go.ChangeAt Go.RowKit
set_option linter.unusedVariables false
theorem PlC.of2 {w w' : World} {x y : Int} {r : Bool} {T : TypeId} {o : Obj} (hb : Below ((w.alloc o).alloc (.cells #[.int .i64 x, .int .i64 y, .bool r] T (0, 0))).heap.size ((w.alloc o).alloc (.cells #[.int .i64 x, .int .i64 y, .bool r] T (0, 0))) w') : PlC w' (w.heap.size + 1) x y r := by
  have h := (PlC.new (w.alloc o) x y r T).below hb
  have e : (w.alloc o).heap.size = w.heap.size + 1 := by simp
  rw [e] at h
  exact h
end Go.Proofs.YtncopdhhchmpeaaGreatDoor
namespace Go.Proofs.YtncopdhhchmpeaaGreatDoor
open Go.ChangeShapes Go.WideShapes Go.ChangeAt Go.RowKit
set_option linter.unusedVariables false
theorem PBelow.low {w w' w'' : World} {B G : Nat} (h : PBelow w w' B G) (h2 : Below w.heap.size w' w'') : PBelow w w'' B G :=
  ⟨h2.os.trans h.1, h2.tape.trans h.2.1, h2.output.trans h.2.2.1, Nat.le_trans h.2.2.2.1 h2.size, fun k hk h3 h4 => (h2.block k hk).trans (h.2.2.2.2 k hk h3 h4)⟩
theorem KeyC.pbelow {w w' : World} {b : Nat} {k0 k1 k2 k3 k4 : Int} {B G : Nat} (h : KeyC w b k0 k1 k2 k3 k4) (hb : PBelow w w' B G) (h1 : b ≠ B) (h2 : b ≠ G) : KeyC w' b k0 k1 k2 k3 k4 := by
  have e := hb.2.2.2.2 b h.lt h1 h2
  have c : ∀ j, w'.cell? ⟨b, j, none⟩ = w.cell? ⟨b, j, none⟩ := fun j => World.cell?_of_block (a := ⟨b, j, none⟩) e
  exact ⟨Nat.lt_of_lt_of_le h.lt hb.2.2.2.1, (c 0).trans h.c0, (c 1).trans h.c1, (c 2).trans h.c2, (c 3).trans h.c3, (c 4).trans h.c4, fun j => by have := h.fr j; simp only [World.frozen?] at this ⊢; rw [e]; exact this⟩
section
variable {w w' : World} {k0 k1 k2 k3 k4 x0 x1 x2 x3 x4 z0 z1 z2 z3 z4 : Int} {T : TypeId}
theorem KeyC.three (hb : Below (((w.alloc (.cells #[.int .i64 k0, .int .i64 k1, .int .i64 k2, .int .i64 k3, .int .u32 k4] T (0, 0))).alloc (.cells #[.int .i64 x0, .int .i64 x1, .int .i64 x2, .int .i64 x3, .int .u32 x4] T (0, 0))).alloc (.cells #[.int .i64 z0, .int .i64 z1, .int .i64 z2, .int .i64 z3, .int .u32 z4] T (0, 0))).heap.size (((w.alloc (.cells #[.int .i64 k0, .int .i64 k1, .int .i64 k2, .int .i64 k3, .int .u32 k4] T (0, 0))).alloc (.cells #[.int .i64 x0, .int .i64 x1, .int .i64 x2, .int .i64 x3, .int .u32 x4] T (0, 0))).alloc (.cells #[.int .i64 z0, .int .i64 z1, .int .i64 z2, .int .i64 z3, .int .u32 z4] T (0, 0))) w') :
    KeyC w' w.heap.size k0 k1 k2 k3 k4 ∧ KeyC w' (w.heap.size + 1) x0 x1 x2 x3 x4 ∧ KeyC w' (w.heap.size + 1 + 1) z0 z1 z2 z3 z4 := by
  have a1 := ((KeyC.new w k0 k1 k2 k3 k4 T).below ((Below.refl _ _).alloc (Nat.le_refl _) (.cells #[.int .i64 x0, .int .i64 x1, .int .i64 x2, .int .i64 x3, .int .u32 x4] T (0, 0)))).below ((Below.refl _ _).alloc (Nat.le_refl _) (.cells #[.int .i64 z0, .int .i64 z1, .int .i64 z2, .int .i64 z3, .int .u32 z4] T (0, 0)))
  have a2 := (KeyC.new (w.alloc (.cells #[.int .i64 k0, .int .i64 k1, .int .i64 k2, .int .i64 k3, .int .u32 k4] T (0, 0))) x0 x1 x2 x3 x4 T).below ((Below.refl _ _).alloc (Nat.le_refl _) (.cells #[.int .i64 z0, .int .i64 z1, .int .i64 z2, .int .i64 z3, .int .u32 z4] T (0, 0)))
  have a3 := KeyC.new ((w.alloc (.cells #[.int .i64 k0, .int .i64 k1, .int .i64 k2, .int .i64 k3, .int .u32 k4] T (0, 0))).alloc (.cells #[.int .i64 x0, .int .i64 x1, .int .i64 x2, .int .i64 x3, .int .u32 x4] T (0, 0))) z0 z1 z2 z3 z4 T
  have b1 := a1.below hb
  have b2 := a2.below hb
  have b3 := a3.below hb
  have e2 : (w.alloc (.cells #[.int .i64 k0, .int .i64 k1, .int .i64 k2, .int .i64 k3, .int .u32 k4] T (0, 0))).heap.size = w.heap.size + 1 := by simp
  have e3 : ((w.alloc (.cells #[.int .i64 k0, .int .i64 k1, .int .i64 k2, .int .i64 k3, .int .u32 k4] T (0, 0))).alloc (.cells #[.int .i64 x0, .int .i64 x1, .int .i64 x2, .int .i64 x3, .int .u32 x4] T (0, 0))).heap.size = w.heap.size + 1 + 1 := by simp
  rw [e2] at b2
  rw [e3] at b3
  exact ⟨b1, b2, b3⟩
end
set_option maxRecDepth 100000 in
set_option maxHeartbeats 2000000 in
theorem sswap_ok {S : Nat} {a b : Shp} {th : Nat → Bool} {vr_ : Nat → Int} {W : Nat → Nat → Value} {th2 : Nat → Bool} {vr2 : Nat → Int} {W2 : Nat → Nat → Int} (vs vr : Value) (k : Nat) (k2 k3 k4 : Int) (j : Nat) (hk : k < a.n) (hj : j < 16) (hth : Hid (th k = true)) (ht : Hid (liveB a b th vr_ th2 vr2 2 k k2 = true)) (hb0 : Hid (bits BinOp.and IntKind.i64 k3 2 = 0)) (hb5 : Hid ((bits BinOp.and IntKind.i64 k3 5 == 0) = true)) (y0 y1 y2 y3 y4 x0 x1 x2 x3 x4 : Int) (hy : Hid (KAt (W k) j y0 y1 y2 y3 y4)) (hx : Hid (rightB x0 x1 x2 x3 x4 = true)) (hcell : Hid (∀ j, j < 80 → (W k j).oneCell' = true)) (w : World) (hE : ErrsAt vs vr w) (h : (StAt w S a b th vr_ W th2 vr2 W2)) :
    Calls Tryz.prog 175 #[.pointer (some ⟨S, 0, none⟩), .agg #[.int .i64 2, .int .i64 k, .int .i64 k2, .int .i64 k3, .int .u32 k4], .int .i64 j, (Value.agg #[.int .i64 x0, .int .i64 x1, .int .i64 x2, .int .i64 x3, .int .u32 x4])] w fun e w' => e = .returned (.tuple #[(Value.agg #[.int .i64 y0, .int .i64 y1, .int .i64 y2, .int .i64 y3, .int .u32 y4]), .nilIface]) ∧ StAt w' S a b th vr_ (updV W k (j * 5) (k5 x0 x1 x2 x3 x4)) th2 vr2 W2 ∧ PBelow w w' a.B a.G := by
  have hb1 : ∀ o o' o2, Below w.heap.size w (((w.alloc o).alloc o').alloc o2) := fun o o' o2 => (((Below.refl _ _).alloc (Nat.le_refl _) _ : Below w.heap.size w (w.alloc o)).alloc (by simp) o').alloc (by simp; omega) o2
  have H := Lib.hid (fun o o' o2 => h.below (hb1 o o' o2))
  have HE := Lib.hid (fun o o' o2 => hE.below (hb1 o o' o2))
  have HB1 := Lib.hid hb1
  have H0 := Lib.hid h
  have g0 : Hid (W k (j * 5) = .int .i64 y0) := Lib.hid hy.out.1
  have g1 : Hid (W k (j * 5 + 1) = .int .i64 y1) := Lib.hid hy.out.2.1
  have g2 : Hid (W k (j * 5 + 2) = .int .i64 y2) := Lib.hid hy.out.2.2.1
  have g3 : Hid (W k (j * 5 + 3) = .int .i64 y3) := Lib.hid hy.out.2.2.2.1
  have g4 : Hid (W k (j * 5 + 4) = .int .u32 y4) := Lib.hid hy.out.2.2.2.2
  clear h hb1 hE
  go_enter Tryz.func175, Tryz.ntmps175
  go_upto_region 4 with (first
    | (go_at_call 179; (with_reducible refine (swrite_ok 2 k k2 k3 k4 (Or.inl rfl) ht hb0.out hb5.out _ (H.out _ _ _)).mono ?_); rintro e w1 ⟨rfl, hb⟩; have HB := Lib.hid ((HB1.out _ _ _).trans (hb.mono (HB1.out _ _ _).size)); have H1 := Lib.hid ((H.out _ _ _).below hb); have HE1 := Lib.hid ((HE.out _ _ _).below hb); have HT := Lib.hid (KeyC.three hb); clear hb))
  go_cut [11] (fun u wx => ∃ bx : Nat, u = .pointer (some ⟨bx, 0, none⟩) ∧ Below w.heap.size w wx ∧ (StAt wx S a b th vr_ W th2 vr2 W2) ∧ ErrsAt vs vr wx ∧ KeyC wx bx y0 y1 y2 y3 y4 ∧ KeyC wx w.heap.size 2 k k2 k3 k4 ∧ KeyC wx (w.heap.size + 1) x0 x1 x2 x3 x4 ∧ KeyC wx (w.heap.size + 1 + 1) 0 0 0 0 0 ∧ w.heap.size + 1 + 1 < bx)
  case first =>
    have HK0 := Lib.hid HT.out.1
    have HX0 := Lib.hid HT.out.2.1
    have HZ0 := Lib.hid HT.out.2.2
    have hs := H1.out.s0
    have hk1' := HK0.out.c1
    have hA : ∀ o, World.cell? (w1.alloc o) ⟨S, 0, none⟩ = some (.pointer (some ⟨a.P, 0, none⟩)) := fun o => (H1.out.below ((Below.refl w1.heap.size w1).alloc (Nat.le_refl _) o)).s0
    have hA' : ∀ o, World.cell? (w1.alloc o) ⟨w.heap.size, 1, none⟩ = some (.int .i64 k) := fun o => (HK0.out.below ((Below.refl w1.heap.size w1).alloc (Nat.le_refl _) o)).c1
    have hs1 := hA (.cells #[.int .i64 0, .int .i64 0, .int .i64 0, .int .i64 0, .int .u32 0] 42 (0, 0))
    have hs2 := hA' (.cells #[.int .i64 0, .int .i64 0, .int .i64 0, .int .i64 0, .int .u32 0] 42 (0, 0))
    clear hA hA'
    have hl1 := HK0.out.lt
    go_region_with (first | (go_at_call 173; (with_reducible refine (nget_at k j k j (Lib.hid rfl) (Lib.hid rfl) hk hj hth y0 y1 y2 y3 y4 g0 g1 g2 g3 g4 _ (H1.out.below (Below.refl w1.heap.size w1).drew).nd).mono ?_); rintro e w2 ⟨rfl, hb⟩; have HBB := Lib.hid hb; clear hb) | (go_at_call 173; (with_reducible refine (nget_at k j k j (Lib.hid rfl) (Lib.hid rfl) hk hj hth y0 y1 y2 y3 y4 g0 g1 g2 g3 g4 _ (H1.out.below ((Below.refl w1.heap.size w1).alloc (Nat.le_refl _) _).drew).nd).mono ?_); rintro e w2 ⟨rfl, hb⟩; have HBA := Lib.hid hb; have hKB := ((KeyC.new w1 0 0 0 0 0 42).below (Below.refl _ _).drew).below hb; have kc0 := hKB.c0; have kc1 := hKB.c1; have kc2 := hKB.c2; have kc3 := hKB.c3; have kc4 := hKB.c4; have kf0 := hKB.fr 0; have kf1 := hKB.fr 1; have kf2 := hKB.fr 2; have kf3 := hKB.fr 3; have kf4 := hKB.fr 4; have HKB := Lib.hid hKB; clear hb hKB))
    all_goals (go_wp2_with fail; go_meet; clear hs1 hs2 hs hk1'; have hz := HB.out.size; have hz2 : w.heap.size + 1 + 1 < w1.heap.size := HZ0.out.lt)
    all_goals (first
      | (have hb := ((Below.refl w1.heap.size w1).drew.trans (HBB.out.mono (by simp))).alloc (Nat.le_trans HBB.out.size (Nat.le_refl _)) (.cells #[.int .i64 y0, .int .i64 y1, .int .i64 y2, .int .i64 y3, .int .u32 y4] 42 (0, 0)); exact ⟨_, rfl, HB.out.trans (hb.mono hz), H1.out.below hb, HE1.out.below hb, KeyC.new _ y0 y1 y2 y3 y4 _, HK0.out.below hb, HX0.out.below hb, HZ0.out.below hb, Nat.lt_of_lt_of_le hz2 HBB.out.size⟩)
      | (have hb := below_set5 ((((Below.refl w1.heap.size w1).alloc (Nat.le_refl _) _).drew).trans (HBA.out.mono (by simp))) (Nat.le_refl _) y0 y1 y2 y3 y4; exact ⟨_, rfl, HB.out.trans (hb.mono hz), H1.out.below hb, HE1.out.below hb, HKB.out.set y0 y1 y2 y3 y4, HK0.out.below hb, HX0.out.below hb, HZ0.out.below hb, hz2⟩))
  case rest =>
    obtain ⟨bx, rfl, hb, h, hE, ky, kk, kx, kz, hl⟩ := hcut
    go_upto_region 5 with fail
    have hB : a.B < w.heap.size := H0.out.nd.ar.lt.2
    have hG : a.G < w.heap.size := (H0.out.nd.row.lt a.G rfl).2
    have hs := h.s0
    have kk1 := kk.c1
    have q0 := kx.c0
    have q1 := kx.c1
    have q2 := kx.c2
    have q3 := kx.c3
    have q4 := kx.c4
    have HC := Lib.hid (hb.drew)
    have HS := Lib.hid (h.below (Below.refl _ _).drew)
    have HEc := Lib.hid (hE.below (Below.refl _ _).drew)
    have HY := Lib.hid (ky.below (Below.refl _ _).drew)
    have HZ := Lib.hid (kz.below (Below.refl _ _).drew)
    have HN := Lib.hid (show bx ≠ a.B ∧ bx ≠ a.G ∧ w.heap.size + 1 + 1 ≠ a.B ∧ w.heap.size + 1 + 1 ≠ a.G by omega)
    clear hb h hE ky kk kx kz hl hB hG
    go_still_tail 8, (by kernel_rfl)
    change wpList _ _ _ _ _ wc.drew
    clear hs kk1 q0 q1 q2 q3 q4
    go_wp2_with (first
      | (go_at_call 199; (with_reducible refine (nset_ok vs vr k j hk hj hth x0 x1 x2 x3 x4 hx _ HEc.out HS.out.nd hcell).mono ?_); rintro e w3 ⟨rfl, hN3, hP3⟩; have y := HY.out.pbelow hP3 HN.out.1 HN.out.2.1; have z := HZ.out.pbelow hP3 HN.out.2.2.1 HN.out.2.2.2; have y0' := y.c0; have y1' := y.c1; have y2' := y.c2; have y3' := y.c3; have y4' := y.c4; have z0 := z.c0; have z1 := z.c1; have z2 := z.c2; have z3 := z.c3; have z4 := z.c4; have f0 := z.fr 0; have f1 := z.fr 1; have f2 := z.fr 2; have f3 := z.fr 3; have f4 := z.fr 4; have HN3 := Lib.hid hN3; have HP3 := Lib.hid ((PBelow.of_below HC.out).trans hP3); have HZ3 := Lib.hid z; clear z y hN3 hP3))
    have t := HZ3.out.set y0 y1 y2 y3 y4
    have t0 := t.c0
    have t1 := t.c1
    have t2 := t.c2
    have t3 := t.c3
    have t4 := t.c4
    (try simp only [Exit.inBlock, Exit.then])
    refine bodyPost_ret (v := .tuple #[(Value.agg #[.int .i64 y0, .int .i64 y1, .int .i64 y2, .int .i64 y3, .int .u32 y4]), .nilIface]) ?_ rfl ?_
    · simp [results, go_sem, t0, t1, t2, t3, t4]
    · have hb := below_set5 (Below.refl w.heap.size w3) (show w.heap.size ≤ w.heap.size + 1 + 1 by omega) y0 y1 y2 y3 y4
      have hP := HP3.out.low hb
      exact ⟨rfl, H0.out.node (HN3.out.same hb.size (hb.block _ H0.out.nd.pl) (hb.block _ H0.out.nd.ar.pl) (hb.block _ H0.out.nd.ar.lt.2) (hb.block _ (H0.out.nd.row.lt a.G rfl).2)) hP, hP⟩
end Go.Proofs.YtncopdhhchmpeaaGreatDoor
namespace Go.Proofs.YtncopdhhchmpeaaGreatDoor
open Go.ChangeShapes Go.WideShapes Go.ChangeAt Go.RowKit
set_option linter.unusedVariables false
/-- A store's blocks lie below N. -/
structure StLo (S : Nat) (a b : Shp) (N : Nat) : Prop where
  s : S < N
  n : a.P < N ∧ a.p < N ∧ a.B < N ∧ a.G < N
  p : b.P < N ∧ b.p < N ∧ b.B < N ∧ b.G < N
section
variable {w0 w w' : World} {S : Nat} {a b : Shp} {th : Nat → Bool} {vr_ : Nat → Int} {W : Nat → Nat → Value} {th2 : Nat → Bool} {vr2 : Nat → Int} {W2 : Nat → Nat → Int} {N : Nat}
theorem StAt.lo (h : (StAt w S a b th vr_ W th2 vr2 W2)) : StLo S a b w.heap.size := ⟨h.sl, ⟨h.nd.pl, h.nd.ar.pl, h.nd.ar.lt.2, (h.nd.row.lt a.G rfl).2⟩, ⟨h.pg.pl, h.pg.ar.pl, h.pg.ar.lt.2, (h.pg.row.lt b.G rfl).2⟩⟩
theorem StLo.mono {M : Nat} (h : StLo S a b N) (hm : N ≤ M) : StLo S a b M := by
  have h1 := h.s
  have h2 := h.n
  have h3 := h.p
  exact ⟨by omega, by omega, by omega⟩
theorem StAt.under (h : (StAt w S a b th vr_ W th2 vr2 W2)) (hl : StLo S a b N) (hs : w.heap.size ≤ w'.heap.size) (hk : ∀ k, k < N → w'.heap[k]? = w.heap[k]?) : (StAt w' S a b th vr_ W th2 vr2 W2) := by
  have hS := hk S hl.s
  refine ⟨(World.cell?_of_block (a := ⟨S, 0, none⟩) hS).trans h.s0, (World.cell?_of_block (a := ⟨S, 1, none⟩) hS).trans h.s1, Nat.lt_of_lt_of_le h.sl hs, ?_, ?_, h.ab, h.hi, h.hs⟩
  · exact h.nd.same hs (hk _ hl.n.1) (hk _ hl.n.2.1) (hk _ hl.n.2.2.1) (hk _ hl.n.2.2.2)
  · exact h.pg.same hs (hk _ hl.p.1) (hk _ hl.p.2.1) (hk _ hl.p.2.2.1) (hk _ hl.p.2.2.2)
theorem set_heap (w : World) (g k j : Nat) (u : Value) (h : k ≠ g) : (w.setCell ⟨g, j, none⟩ u).heap[k]? = w.heap[k]? := Below.heap_setCell _ _ _ _ h
theorem SV.put1 (h : SV w0 w S a b th vr_ W th2 vr2 W2) (hl : StLo S a b N) (g j : Nat) (hg : N ≤ g) (h0 : w0.heap.size ≤ N) (u : Value) : SV w0 (w.setCell ⟨g, j, none⟩ u) S a b th vr_ W th2 vr2 W2 :=
  ⟨h.bel.setCell (Nat.le_trans h0 hg) _, h.wb, h.st.under hl (by simp) (fun k hk => set_heap _ _ _ _ _ (by omega))⟩
theorem SV.put5 (h : SV w0 w S a b th vr_ W th2 vr2 W2) (hl : StLo S a b N) (g : Nat) (hg : N ≤ g) (h0 : w0.heap.size ≤ N) (u0 u1 u2 u3 u4 : Value) : SV w0 (((((w.setCell ⟨g, 0, none⟩ u0).setCell ⟨g, 1, none⟩ u1).setCell ⟨g, 2, none⟩ u2).setCell ⟨g, 3, none⟩ u3).setCell ⟨g, 4, none⟩ u4) S a b th vr_ W th2 vr2 W2 :=
  ((((h.put1 hl g 0 hg h0 u0).put1 hl g 1 hg h0 u1).put1 hl g 2 hg h0 u2).put1 hl g 3 hg h0 u3).put1 hl g 4 hg h0 u4
end
theorem KeyC.set3 {w : World} {b : Nat} {k0 k1 k2 k3 k4 : Int} (h : KeyC w b k0 k1 k2 k3 k4) (z : Int) : KeyC (w.setCell ⟨b, 3, none⟩ (.int .i64 z)) b k0 k1 k2 z k4 := by
  refine ⟨by simpa using h.lt, ?_, ?_, ?_, ?_, ?_, fun j => by simpa using h.fr j⟩
  · rw [World.cell?_setCell_other _ _ _ _ (by simp)]; exact h.c0
  · rw [World.cell?_setCell_other _ _ _ _ (by simp)]; exact h.c1
  · rw [World.cell?_setCell_other _ _ _ _ (by simp)]; exact h.c2
  · exact World.cell?_setCell_same _ _ _ h.c3
  · rw [World.cell?_setCell_other _ _ _ _ (by simp)]; exact h.c4
/-- A way that ends well is one in a store that has more nodes. -/
theorem Way.more {a b : Shp} {th th' : Nat → Bool} {vr_ : Nat → Int} {W W' : Nat → Nat → Value} {th2 : Nat → Bool} {vr2 : Nat → Int} (hn : ∀ i, i < a.n → th i = true → th' i = true ∧ ∀ j y0 y1 y2 y3 y4, KAt (W i) j y0 y1 y2 y3 y4 → KAt (W' i) j y0 y1 y2 y3 y4)
    {k0 k1 k2 k3 k4 below addr : Int} {ro : Bool} {ids : List Int} {pg at_ : Int} {r : Bool} {f : Int} (h : Way a b th vr_ W th2 vr2 k0 k1 k2 k3 k4 below addr ro ids pg at_ r f) (hf : f = 0) : Way a b th' vr_ W' th2 vr2 k0 k1 k2 k3 k4 below addr ro ids pg at_ r f := by
  induction h with
  | fault s t l f h0 hs hl hz hf' => subst hf; simp at hf'
  | page h0 a0 hl ha => exact .page h0 a0 hl ha
  | node h i q r' p ad y0 y1 y2 y3 y4 hk hp ha had h1 h4 hl hd hi hn' ht hq hr hy next ih =>
    have hx := hn i hn' ht
    refine .node h i q r' p ad y0 y1 y2 y3 y4 hk hp ha had h1 h4 ?_ hd hi hn' hx.1 hq hr (hx.2 _ _ _ _ _ _ hy) (ih hf)
    subst hi
    simp [liveB, thereB, ht, hx.1] at hl ⊢
    exact hl
/-- The two errors that a key's test names. -/
theorem errs2 {l : List (String × DataW Unit)} {w : World} (h : laidMet Tryz.prog l w) (h1 : ∃ t, ("turnkey/api.ErrShape", DataW.iface "*errors.errorString" (.ptr (.agg [.lit (.string t)]))) ∈ l) (h2 : ∃ t, ("turnkey/api.ErrRange", DataW.iface "*errors.errorString" (.ptr (.agg [.lit (.string t)]))) ∈ l) : ∃ vs vr, ErrsAt vs vr w := by
  obtain ⟨t1, h1⟩ := h1
  obtain ⟨t2, h2⟩ := h2
  have E := errs_are (gs := [6, 1]) h (by
    intro g hg
    simp at hg
    rcases hg with rfl | rfl
    · exact ⟨_, t1, h1, gErrShape, tErrShape⟩
    · exact ⟨_, t2, h2, gErrRange, tErrRange⟩)
  obtain ⟨s1, s2, -⟩ := E.1 6 (by simp)
  obtain ⟨r1, r2, -⟩ := E.1 1 (by simp)
  exact ⟨_, _, s1, r1, s2, r2⟩
end Go.Proofs.YtncopdhhchmpeaaGreatDoor
namespace Go.Proofs.YtncopdhhchmpeaaGreatDoor
open Go.ChangeShapes Go.WideShapes Go.ChangeAt Go.RowKit
set_option linter.unusedVariables false
theorem nset_at {base P p B G n c : Nat} {th : Nat → Bool} {vr_ : Nat → Int} {W : Nat → Nat → Value} (vs vr : Value) (id sl : Int) (k s : Nat) (hid : Hid (id = k)) (hsl : Hid (sl = s)) (hk : k < n) (hs : s < 16) (ht : Hid (th k = true)) (y0 y1 y2 y3 y4 : Int) (hy : Hid (rightB y0 y1 y2 y3 y4 = true)) (w : World) (hE : ErrsAt vs vr w) (h : NdAt w base P p B G n c th vr_ W) (hcell : Hid (∀ j, j < 80 → (W k j).oneCell' = true)) :
    Calls Tryz.prog 199 #[.pointer (some ⟨P, 0, none⟩), .int .i64 id, .int .i64 sl, (Value.agg #[.int .i64 y0, .int .i64 y1, .int .i64 y2, .int .i64 y3, .int .u32 y4])] w fun e w' => e = .returned .nilIface ∧ NdAt w' base P p B G n c th vr_ (updV W k (s * 5) (k5 y0 y1 y2 y3 y4)) ∧ PBelow w w' B G := by
  rw [hid.out, hsl.out]
  exact nset_ok vs vr k s hk hs ht y0 y1 y2 y3 y4 hy w hE h hcell
theorem KeyC.set2 {w : World} {b : Nat} {k0 k1 k2 k3 k4 : Int} (h : KeyC w b k0 k1 k2 k3 k4) (z : Int) : KeyC (w.setCell ⟨b, 2, none⟩ (.int .i64 z)) b k0 k1 z k3 k4 := by
  refine ⟨by simpa using h.lt, ?_, ?_, ?_, ?_, ?_, fun j => by simpa using h.fr j⟩
  · rw [World.cell?_setCell_other _ _ _ _ (by simp)]; exact h.c0
  · rw [World.cell?_setCell_other _ _ _ _ (by simp)]; exact h.c1
  · exact World.cell?_setCell_same _ _ _ h.c2
  · rw [World.cell?_setCell_other _ _ _ _ (by simp)]; exact h.c3
  · rw [World.cell?_setCell_other _ _ _ _ (by simp)]; exact h.c4
/-- Node i of some: each slot holds a key. -/
def All16 (f : Nat → Value) : Prop := ∀ j, j < 16 → ∃ y0 y1 y2 y3 y4, KAt f j y0 y1 y2 y3 y4
theorem All16.one {f : Nat → Value} (h : All16 f) : ∀ b, b < 80 → (f b).oneCell' = true := KAt.one h
theorem All16.set {W : Nat → Nat → Value} {i : Nat} (h : All16 (W i)) (k s : Nat) (y0 y1 y2 y3 y4 : Int) : All16 (updV W k (s * 5) (k5 y0 y1 y2 y3 y4) i) := fun j hj => by
  by_cases e : i = k ∧ j = s
  · obtain ⟨rfl, rfl⟩ := e
    exact ⟨_, _, _, _, _, updV_key W i j y0 y1 y2 y3 y4⟩
  · obtain ⟨x0, x1, x2, x3, x4, hx⟩ := h j hj
    exact ⟨x0, x1, x2, x3, x4, updV_rest W k s i j y0 y1 y2 y3 y4 e hx⟩
theorem All16.fresh (W : Nat → Nat → Value) (i : Nat) (kk : Nat → Nat → Int) : All16 (freshV W i (kcs kk 0) i) := fun j hj => ⟨_, _, _, _, _, freshV_nokey W i kk 0 j (Nat.zero_le _) hj⟩
theorem All16.rest {W : Nat → Nat → Value} {a : Nat} (h : All16 (W a)) (i : Nat) (xs : List Value) (hne : a ≠ i) : All16 (freshV W i xs a) := fun j hj => by
  obtain ⟨x0, x1, x2, x3, x4, hx⟩ := h j hj
  exact ⟨x0, x1, x2, x3, x4, freshV_rest W i xs a j hne hx⟩
theorem fit64 {a : Int} (h : (Lit.int .i64 a).wf = true) : -9223372036854775808 ≤ a ∧ a ≤ 9223372036854775807 := by simpa [Lit.wf, IntKind.min, IntKind.max, IntKind.signed, IntKind.bits] using h
theorem fit32 {a : Int} (h : (Lit.int .u32 a).wf = true) : 0 ≤ a ∧ a ≤ 4294967295 := by simpa [Lit.wf, IntKind.min, IntKind.max, IntKind.signed, IntKind.bits] using h
theorem way_split (p : Nat) (hp : 0 < p) (m : Nat) (hm : m < 16 * p) : ∃ q s : Nat, q < 16 ∧ s < p ∧ m = q * p + s :=
  ⟨m / p, m % p, by rw [Nat.div_lt_iff_lt_mul hp]; exact hm, Nat.mod_lt _ hp, by rw [Nat.mul_comm]; exact (Nat.div_add_mod m p).symm⟩
/-- One step of a way: node i of height h, by slot q. -/
theorem way_at {a b : Shp} {th : Nat → Bool} {vr_ : Nat → Int} {W : Nat → Nat → Value} {th2 : Nat → Bool} {vr2 : Nat → Int} {k1 k2 k3 k4 below addr : Int} {ro : Bool} {ids : List Int} {pg at_ : Int} {r : Bool} {f : Int} (h i q s : Nat) (y0 y1 y2 y3 y4 : Int) (hk : k4 = h) (h1 : 1 ≤ h) (h4 : h ≤ 4) (ha : addr = ((q * (2 * 16 ^ h) + s : Nat) : Int)) (hd : (h : Int) < below) (hi : k1 = i) (hn : i < a.n) (ht : th i = true) (hv : vr_ i = k2) (hq : q < 16) (hr : s < 2 * 16 ^ h) (hy : KAt (W i) q y0 y1 y2 y3 y4) (next : Way a b th vr_ W th2 vr2 y0 y1 y2 y3 y4 h s (ro || roB k3) ids pg at_ r f) : Way a b th vr_ W th2 vr2 2 k1 k2 k3 k4 below addr ro (k1 :: ids) pg at_ r f :=
  .node h i q s (2 * 16 ^ h) _ y0 y1 y2 y3 y4 hk rfl ha rfl h1 h4 (by subst hi; simp [liveB, thereB, hn, ht, hv]) hd hi hn ht hq hr hy next
end Go.Proofs.YtncopdhhchmpeaaGreatDoor
namespace Go.Proofs.YtncopdhhchmpeaaGreatDoor
open Go.ChangeShapes Go.WideShapes Go.ChangeAt Go.RowKit
set_option linter.unusedVariables false
section
variable {a b : Shp} {th : Nat → Bool} {vr_ : Nat → Int} {W : Nat → Nat → Value} {th2 : Nat → Bool} {vr2 : Nat → Int}
theorem entP_in {s k0 k4 below addr : Int} (h : ¬ (k0 = 2 ∧ below ≤ k4)) (ha : ¬ s ≤ addr) : entP s true true k0 k4 below addr = (s, 0) := by
  unfold entP
  rw [if_neg (by decide), if_neg h, if_neg ha]
theorem way_div_uniq {q q' p r r' : Nat} (hr : r < p) (hr' : r' < p) (h : q * p + r = q' * p + r') : q = q' ∧ r = r' := by
  have e1 : (q * p + r) / p = q := by rw [Nat.add_comm, Nat.add_mul_div_right _ _ (by omega), Nat.div_eq_of_lt hr, Nat.zero_add]
  have e2 : (q' * p + r') / p = q' := by rw [Nat.add_comm, Nat.add_mul_div_right _ _ (by omega), Nat.div_eq_of_lt hr', Nat.zero_add]
  have : q = q' := by rw [← e1, ← e2, h]
  subst this
  exact ⟨rfl, by omega⟩
theorem KAt.uniq {f : Nat → Value} {j : Nat} {y0 y1 y2 y3 y4 z0 z1 z2 z3 z4 : Int} (h : KAt f j y0 y1 y2 y3 y4) (g : KAt f j z0 z1 z2 z3 z4) : y0 = z0 ∧ y1 = z1 ∧ y2 = z2 ∧ y3 = z3 ∧ y4 = z4 := by
  obtain ⟨h0, h1, h2, h3, h4⟩ := h
  obtain ⟨g0, g1, g2, g3, g4⟩ := g
  rw [h0] at g0; rw [h1] at g1; rw [h2] at g2; rw [h3] at g3; rw [h4] at g4
  injection g0 with _ g0; injection g1 with _ g1; injection g2 with _ g2; injection g3 with _ g3; injection g4 with _ g4
  exact ⟨g0, g1, g2, g3, g4⟩
theorem Way.det {k0 k1 k2 k3 k4 below addr : Int} {ro : Bool} {ids ids' : List Int} {pg at_ pg' at_' : Int} {r r' : Bool} {f f' : Int} (h : Way a b th vr_ W th2 vr2 k0 k1 k2 k3 k4 below addr ro ids pg at_ r f) (g : Way a b th vr_ W th2 vr2 k0 k1 k2 k3 k4 below addr ro ids' pg' at_' r' f') : ids = ids' ∧ pg = pg' ∧ at_ = at_' ∧ r = r' ∧ f = f' := by
  induction h generalizing ids' pg' at_' r' f' with
  | fault s t l f h0 hs hl hz hf =>
    obtain ⟨rfl, rfl⟩ := hs
    subst hl
    cases g with
    | fault s' t' l' f'' h0' hs' hl' hz' hf' =>
      obtain ⟨rfl, rfl⟩ := hs'
      subst hl'
      rw [hz] at hz'
      injection hz' with _ e
      exact ⟨rfl, rfl, rfl, rfl, e⟩
    | page h0' a0' hl' ha' =>
      rw [hl', show szP 3 _ = 32 from rfl, show szB 3 _ = true by simp [szB], entP_in (by omega) (by omega)] at hz
      injection hz with _ e
      subst e
      simp at hf
    | node h i q r'' p ad y0 y1 y2 y3 y4 hk hp ha had h1 h4 hl' hd hi hn ht hq hr hy next =>
      have hs := way_sz h h1 h4 p hp
      subst hk
      rw [hl', hs.1, hs.2, entP_in (by omega) (by rw [ha, had]; have := way_lt q p r'' hq hr; omega)] at hz
      injection hz with _ e
      subst e
      simp at hf
  | page h0 a0 hl ha =>
    cases g with
    | fault s' t' l' f'' h0' hs' hl' hz' hf' =>
      obtain ⟨rfl, rfl⟩ := hs'
      subst hl'
      rw [hl, show szP 3 _ = 32 from rfl, show szB 3 _ = true by simp [szB], entP_in (by omega) (by omega)] at hz'
      injection hz' with _ e
      subst e
      simp at hf'
    | page h0' a0' hl' ha' => exact ⟨rfl, rfl, rfl, rfl, rfl⟩
  | node h i q r0 p ad y0 y1 y2 y3 y4 hk hp ha had h1 h4 hl hd hi hn ht hq hr hy next ih =>
    cases g with
    | fault s' t' l' f'' h0' hs' hl' hz' hf' =>
      obtain ⟨rfl, rfl⟩ := hs'
      subst hl'
      have hs := way_sz h h1 h4 p hp
      subst hk
      rw [hl, hs.1, hs.2, entP_in (by omega) (by rw [ha, had]; have := way_lt q p r0 hq hr; omega)] at hz'
      injection hz' with _ e
      subst e
      simp at hf'
    | node h' i' q' r0' p' ad' z0 z1 z2 z3 z4 hk' hp' ha' had' h1' h4' hl' hd' hi' hn' ht' hq' hr' hy' next' =>
      obtain rfl : h = h' := by omega
      obtain rfl : i = i' := by omega
      obtain rfl : p = p' := by rw [hp, hp']
      obtain rfl : ad = ad' := by omega
      obtain ⟨rfl, rfl⟩ := way_div_uniq hr hr' (had.symm.trans had')
      obtain ⟨rfl, rfl, rfl, rfl, rfl⟩ := hy.uniq hy'
      obtain ⟨e1, e2, e3, e4, e5⟩ := ih next'
      exact ⟨by rw [e1], e2, e3, e4, e5⟩
/-- All addresses of one page's words go one way. -/
theorem Way.sheet {k0 k1 k2 k3 k4 below addr : Int} {ro : Bool} {ids : List Int} {pg at_ : Int} {r : Bool} {f : Int} (h : Way a b th vr_ W th2 vr2 k0 k1 k2 k3 k4 below addr ro ids pg at_ r f) (hf : f = 0) : at_ = addr % 32 ∧ ∀ x : Int, 0 ≤ x → x < 32 → Way a b th vr_ W th2 vr2 k0 k1 k2 k3 k4 below (addr / 32 * 32 + x) ro ids pg x r f := by
  induction h with
  | fault s t l f h0 hs hl hz hf' => subst hf; simp at hf'
  | page h0 a0 hl ha =>
    refine ⟨by omega, fun x x0 x1 => ?_⟩
    rename_i addr' _
    rw [show addr' / 32 * 32 + x = x by omega]
    exact .page h0 x0 hl x1
  | node h i q r0 p ad y0 y1 y2 y3 y4 hk hp ha had h1 h4 hl hd hi hn ht hq hr hy next ih =>
    obtain ⟨e, g⟩ := ih hf
    obtain ⟨c, hc⟩ : ∃ c, p = c * 32 := by
      have h5 : h = 1 ∨ h = 2 ∨ h = 3 ∨ h = 4 := by omega
      rcases h5 with rfl | rfl | rfl | rfl
      · exact ⟨1, by rw [hp]⟩
      · exact ⟨16, by rw [hp]⟩
      · exact ⟨256, by rw [hp]⟩
      · exact ⟨4096, by rw [hp]⟩
    have hqp : q * p = q * c * 32 := by rw [hc, Nat.mul_assoc]
    obtain ⟨u, hu⟩ : ∃ u, q * c = u := ⟨_, rfl⟩
    rw [hu] at hqp
    refine ⟨by omega, fun x x0 x1 => ?_⟩
    have gx := g x x0 x1
    obtain ⟨y, rfl⟩ := Int.eq_ofNat_of_zero_le x0
    rw [show ((r0 : Nat) : Int) / 32 * 32 + ((y : Nat) : Int) = ((r0 / 32 * 32 + y : Nat) : Int) by omega] at gx
    refine .node h i q (r0 / 32 * 32 + y) p (q * p + (r0 / 32 * 32 + y)) y0 y1 y2 y3 y4 hk hp ?_ rfl h1 h4 hl hd hi hn ht hq (by omega) hy gx
    rw [ha, had]
    omega
/-- Nodes that a way does not go through may be turned. -/
theorem Way.keep {th' : Nat → Bool} {W' : Nat → Nat → Value} {k0 k1 k2 k3 k4 below addr : Int} {ro : Bool} {ids : List Int} {pg at_ : Int} {r : Bool} {f : Int} (h : Way a b th vr_ W th2 vr2 k0 k1 k2 k3 k4 below addr ro ids pg at_ r f) (hf : f = 0)
    (hn : ∀ i : Nat, (i : Int) ∈ ids → i < a.n → th i = true → th' i = true ∧ ∀ j y0 y1 y2 y3 y4, KAt (W i) j y0 y1 y2 y3 y4 → KAt (W' i) j y0 y1 y2 y3 y4) : Way a b th' vr_ W' th2 vr2 k0 k1 k2 k3 k4 below addr ro ids pg at_ r f := by
  induction h with
  | fault s t l f h0 hs hl hz hf' => subst hf; simp at hf'
  | page h0 a0 hl ha => exact .page h0 a0 hl ha
  | node h i q r0 p ad y0 y1 y2 y3 y4 hk hp ha had h1 h4 hl hd hi hn' ht hq hr hy next ih =>
    have hx := hn i (by rw [hi]; exact .head _) hn' ht
    refine .node h i q r0 p ad y0 y1 y2 y3 y4 hk hp ha had h1 h4 ?_ hd hi hn' hx.1 hq hr (hx.2 _ _ _ _ _ _ hy) (ih hf (fun j hj => hn j (.tail _ hj)))
    subst hi
    simp [liveB, thereB, ht, hx.1] at hl ⊢
    exact hl
theorem Way.ids_len {k0 k1 k2 k3 k4 below addr : Int} {ro : Bool} {ids : List Int} {pg at_ : Int} {r : Bool} {f : Int} (h : Way a b th vr_ W th2 vr2 k0 k1 k2 k3 k4 below addr ro ids pg at_ r f) : (ids.length : Int) ≤ max below 0 := by
  induction h with
  | fault => simp; omega
  | page => simp; omega
  | node h i q r0 p ad y0 y1 y2 y3 y4 hk hp ha had h1 h4 hl hd hi hn' ht hq hr hy next ih =>
    simp only [List.length_cons]
    omega
end
end Go.Proofs.YtncopdhhchmpeaaGreatDoor
namespace Go.Proofs.YtncopdhhchmpeaaGreatDoor
open Go.ChangeShapes Go.WideShapes Go.ChangeAt Go.RowKit
set_option linter.unusedVariables false
set_option linter.unusedSimpArgs false
theorem infoInt8 : (Tryz.prog.info? 3).map (fun i => (i.zero, i.size, i.bytes)) = some (some (.int .i64 0), 1, 8) := by kernel_rfl
/-- A slice of numbers, of one's own, in a variable that is caught. -/
structure IdAt (W0 w : World) (ib : Nat) (v : Value) (l : List Int) : Prop where
  bel : Below W0.heap.size W0 w
  ib0 : W0.heap.size ≤ ib
  ibl : ib < w.heap.size
  c : w.cell? ⟨ib, 0, none⟩ = some v
  fr : w.frozen? ⟨ib, 0, none⟩ = false
  row : w.ownsRow W0.heap.size 3 1 v l.length (l.map (Value.int .i64))
  ne : ∀ g, v.ownBlock = some g → g ≠ ib
theorem IdAt.same {W0 w w' : World} {ib : Nat} {v : Value} {l : List Int} (h : IdAt W0 w ib v l) (hb : Below W0.heap.size W0 w') (hs : w.heap.size ≤ w'.heap.size) (h1 : w'.heap[ib]? = w.heap[ib]?) (h2 : ∀ g, v.ownBlock = some g → w'.heap[g]? = w.heap[g]?) : IdAt W0 w' ib v l :=
  ⟨hb, h.ib0, Nat.lt_of_lt_of_le h.ibl hs, (World.cell?_of_block (a := ⟨ib, 0, none⟩) h1).trans h.c, (World.frozen?_of_block (a := ⟨ib, 0, none⟩) h1).trans h.fr, row_same' h.row h2, h.ne⟩
theorem IdAt.below {W0 w w' : World} {ib : Nat} {v : Value} {l : List Int} (h : IdAt W0 w ib v l) (hb : Below w.heap.size w w') : IdAt W0 w' ib v l :=
  h.same (h.bel.trans (hb.mono h.bel.size)) hb.size (hb.block ib h.ibl) (fun g hg => hb.block g (h.row.lt g hg).2)
theorem IdAt.put {W0 w : World} {ib : Nat} {v : Value} {l : List Int} (h : IdAt W0 w ib v l) (g j : Nat) (h1 : ib ≠ g) (h2 : v.ownBlock ≠ some g) (h0 : W0.heap.size ≤ g) (u : Value) : IdAt W0 (w.setCell ⟨g, j, none⟩ u) ib v l :=
  h.same (h.bel.setCell h0 _) (by simp) (set_heap _ _ _ _ _ h1) (fun k hk => set_heap _ _ _ _ _ (fun e => h2 (by rw [hk, e])))
theorem IdAt.put3 {W0 w : World} {ib : Nat} {v : Value} {l : List Int} (h : IdAt W0 w ib v l) (g : Nat) (h1 : ib ≠ g) (h2 : v.ownBlock ≠ some g) (h0 : W0.heap.size ≤ g) (u0 u1 u2 : Value) : IdAt W0 (((w.setCell ⟨g, 0, none⟩ u0).setCell ⟨g, 1, none⟩ u1).setCell ⟨g, 2, none⟩ u2) ib v l :=
  ((h.put g 0 h1 h2 h0 u0).put g 1 h1 h2 h0 u1).put g 2 h1 h2 h0 u2
theorem IdAt.put5 {W0 w : World} {ib : Nat} {v : Value} {l : List Int} (h : IdAt W0 w ib v l) (g : Nat) (h1 : ib ≠ g) (h2 : v.ownBlock ≠ some g) (h0 : W0.heap.size ≤ g) (y0 y1 y2 y3 y4 : Int) : IdAt W0 (((((w.setCell ⟨g, 0, none⟩ (.int .i64 y0)).setCell ⟨g, 1, none⟩ (.int .i64 y1)).setCell ⟨g, 2, none⟩ (.int .i64 y2)).setCell ⟨g, 3, none⟩ (.int .i64 y3)).setCell ⟨g, 4, none⟩ (.int .u32 y4)) ib v l :=
  ((((h.put g 0 h1 h2 h0 _).put g 1 h1 h2 h0 _).put g 2 h1 h2 h0 _).put g 3 h1 h2 h0 _).put g 4 h1 h2 h0 _
/-- The row lies in no box of the walk. -/
def OwnFar (v : Value) (n : Nat) : Prop := v.ownBlock ≠ some (n + 1 + 1) ∧ v.ownBlock ≠ some (n + 1)
theorem ownFar_nil (n : Nat) : OwnFar (.slice none 0 0) n := ⟨by simp [Value.ownBlock], by simp [Value.ownBlock]⟩
theorem OwnFar.next {v v' : Value} {n m : Nat} (h : OwnFar v n) (hm : n + 1 + 1 < m) (hv : v'.ownBlock = v.ownBlock ∨ ∃ g, m ≤ g ∧ v'.ownBlock = some g) : OwnFar v' n := by
  rcases hv with e | ⟨g, hg, e⟩
  · unfold OwnFar; rw [e]; exact h
  · unfold OwnFar; rw [e]; exact ⟨fun x => by injection x with x; omega, fun x => by injection x with x; omega⟩
theorem PlC.same {w w' : World} {b : Nat} {x y : Int} {r : Bool} (h : PlC w b x y r) (hs : w.heap.size ≤ w'.heap.size) (e : w'.heap[b]? = w.heap[b]?) : PlC w' b x y r :=
  ⟨Nat.lt_of_lt_of_le h.lt hs, (World.cell?_of_block (a := ⟨b, 0, none⟩) e).trans h.c0, (World.cell?_of_block (a := ⟨b, 1, none⟩) e).trans h.c1, (World.cell?_of_block (a := ⟨b, 2, none⟩) e).trans h.c2, fun j => (World.frozen?_of_block (a := ⟨b, j, none⟩) e).trans (h.fr j)⟩
theorem one_new (w : World) (x : Int) (t : TypeId) : ∀ j u, [Value.int .i64 x][j]? = some u → (w.alloc (.cells #[.int .i64 x] t (0, 0))).cell? (Addr.add ⟨w.heap.size, 0, none⟩ j) = some u := by
  intro j u hj
  match j, hj with
  | 0, hj => simp at hj; subst hj; simp [Addr.add]
end Go.Proofs.YtncopdhhchmpeaaGreatDoor
namespace Go.Proofs.YtncopdhhchmpeaaGreatDoor
open Go.ChangeShapes Go.WideShapes Go.ChangeAt Go.RowKit
set_option linter.unusedVariables false
set_option linter.unusedSimpArgs false
end Go.Proofs.YtncopdhhchmpeaaGreatDoor
namespace Go.Proofs.YtncopdhhchmpeaaGreatDoor
open Go.ChangeShapes Go.WideShapes Go.ChangeAt Go.RowKit
set_option linter.unusedVariables false
theorem idat_new (w : World) (o : Obj) : IdAt w ((w.alloc o).alloc (.cells #[.slice none 0 0] 57 (0, 0))) (w.heap.size + 1) (.slice none 0 0) [] :=
  ⟨((Below.refl _ _).alloc (Nat.le_refl _) _ : Below w.heap.size w (w.alloc o)).alloc (by simp) _, by omega, by simp, by
    have : ((w.alloc o).alloc (.cells #[.slice none 0 0] 57 (0, 0))).cell? ⟨(w.alloc o).heap.size, 0, none⟩ = some (.slice none 0 0) := by simp
    rwa [show (w.alloc o).heap.size = w.heap.size + 1 by simp] at this, by
    have : ((w.alloc o).alloc (.cells #[.slice none 0 0] 57 (0, 0))).frozen? ⟨(w.alloc o).heap.size, 0, none⟩ = false := by simp
    rwa [show (w.alloc o).heap.size = w.heap.size + 1 by simp] at this, World.ownsRow_nil _ _ _ _, fun g hg => by simp [Value.ownBlock] at hg⟩
end Go.Proofs.YtncopdhhchmpeaaGreatDoor
namespace Go.Proofs.YtncopdhhchmpeaaGreatDoor
open Go.ChangeShapes Go.WideShapes Go.ChangeAt Go.RowKit
set_option linter.unusedVariables false
/-- A way that is remembered: from which root, which sheet; where it leads; through which nodes. -/
structure EW where
  k0 : Int
  k1 : Int
  k2 : Int
  k3 : Int
  k4 : Int
  sh : Int
  pg : Int
  at_ : Int
  ro : Bool
  ids : List Int
  na : Option Addr
  nc : Nat
/-- Its cells. -/
def EW.cs (e : EW) : List Value := [.int .i64 e.k0, .int .i64 e.k1, .int .i64 e.k2, .int .i64 e.k3, .int .u32 e.k4, .int .u32 e.sh, .int .i64 e.pg, .int .i64 e.at_, .bool e.ro, .slice e.na e.ids.length e.nc]
/-- The numbers of its nodes lie in a row apart. -/
def NodesIn (w : World) (N cb : Nat) (v : Value) (e : EW) : Prop := ∀ i, i < e.ids.length → ∃ g o, e.na = some ⟨g, o, none⟩ ∧ N ≤ g ∧ g < w.heap.size ∧ g ≠ cb ∧ v.ownBlock ≠ some g ∧ w.cell? ⟨g, o + i, none⟩ = some (.int .i64 (e.ids.getD i 0))
def ewCells (E : List EW) : List Value := E.flatMap EW.cs
structure CacheAt (w : World) (N cb : Nat) (size hits : Int) (v : Value) (E : List EW) : Prop where
  nb : N ≤ cb
  cl : cb < w.heap.size
  c0 : w.cell? ⟨cb, 0, none⟩ = some (.int .i64 size)
  c1 : w.cell? ⟨cb, 1, none⟩ = some (.int .i64 hits)
  c2 : w.cell? ⟨cb, 2, none⟩ = some v
  fr : ∀ j, w.frozen? ⟨cb, j, none⟩ = false
  row : w.ownsRow N 253 10 v E.length (ewCells E)
  ne : v.ownBlock ≠ some cb
  nd : ∀ e, e ∈ E → NodesIn w N cb v e
theorem CacheAt.same {w w' : World} {N cb : Nat} {size hits : Int} {v : Value} {E : List EW} (h : CacheAt w N cb size hits v E) (hs : w.heap.size ≤ w'.heap.size) (hk : ∀ k, N ≤ k → k < w.heap.size → w'.heap[k]? = w.heap[k]?) : CacheAt w' N cb size hits v E := by
  have e := hk cb h.nb h.cl
  refine ⟨h.nb, Nat.lt_of_lt_of_le h.cl hs, (World.cell?_of_block (a := ⟨cb, 0, none⟩) e).trans h.c0, (World.cell?_of_block (a := ⟨cb, 1, none⟩) e).trans h.c1, (World.cell?_of_block (a := ⟨cb, 2, none⟩) e).trans h.c2, fun j => (World.frozen?_of_block (a := ⟨cb, j, none⟩) e).trans (h.fr j), row_same' h.row (fun g hg => hk g (h.row.lt g hg).1 (h.row.lt g hg).2), h.ne, fun e he i hi => ?_⟩
  obtain ⟨g, o, h1, h2, h3, h4, h5, h6⟩ := h.nd e he i hi
  exact ⟨g, o, h1, h2, Nat.lt_of_lt_of_le h3 hs, h4, h5, (World.cell?_of_block (a := ⟨g, o + i, none⟩) (hk g h2 h3)).trans h6⟩
theorem CacheAt.below {w w' : World} {N cb : Nat} {size hits : Int} {v : Value} {E : List EW} (h : CacheAt w N cb size hits v E) (hb : Below w.heap.size w w') : CacheAt w' N cb size hits v E :=
  h.same hb.size (fun k _ hk => hb.block k hk)
theorem EW.cs_len (e : EW) : e.cs.length = 10 := rfl
theorem ewCells_get : ∀ (E : List EW) (k q : Nat) (e : EW), E[k]? = some e → q < 10 → (ewCells E)[k * 10 + q]? = e.cs[q]? := by
  intro E
  induction E with
  | nil => intro k q e h; simp at h
  | cons d E ih =>
    intro k q e h hq
    have hd := d.cs_len
    show (d.cs ++ ewCells E)[k * 10 + q]? = _
    cases k with
    | zero =>
      simp at h
      subst h
      rw [Nat.zero_mul, Nat.zero_add, List.getElem?_append_left (by omega)]
    | succ k =>
      simp at h
      rw [List.getElem?_append_right (by rw [hd]; omega), hd, show (k + 1) * 10 + q - 10 = k * 10 + q by omega]
      exact ih k q e h hq
theorem ewCells_snoc (E : List EW) (e : EW) : ewCells (E ++ [e]) = ewCells E ++ e.cs := by simp [ewCells]
theorem CacheAt.way {w : World} {N cb : Nat} {size hits : Int} {v : Value} {E : List EW} (h : CacheAt w N cb size hits v E) {g n c : Nat} (hv : v = .slice (some ⟨g, 0, none⟩) n c) (k : Nat) (e : EW) (he : E[k]? = some e) :
    w.cell? ⟨g, k * 10, none⟩ = some (.int .i64 e.k0) ∧ w.cell? ⟨g, k * 10 + 1, none⟩ = some (.int .i64 e.k1) ∧ w.cell? ⟨g, k * 10 + 2, none⟩ = some (.int .i64 e.k2) ∧ w.cell? ⟨g, k * 10 + 3, none⟩ = some (.int .i64 e.k3) ∧ w.cell? ⟨g, k * 10 + 4, none⟩ = some (.int .u32 e.k4) ∧ w.cell? ⟨g, k * 10 + 5, none⟩ = some (.int .u32 e.sh) ∧ w.cell? ⟨g, k * 10 + 6, none⟩ = some (.int .i64 e.pg) ∧ w.cell? ⟨g, k * 10 + 7, none⟩ = some (.int .i64 e.at_) ∧ w.cell? ⟨g, k * 10 + 8, none⟩ = some (.bool e.ro) ∧ w.cell? ⟨g, k * 10 + 9, none⟩ = some (.slice e.na e.ids.length e.nc) := by
  obtain ⟨a', c', hsh⟩ := own_shape' h.row
  have hn : n = E.length := by rw [hv] at hsh; injection hsh
  subst hv
  subst hn
  have hk : k < E.length := by
    rcases Nat.lt_or_ge k E.length with h' | h'
    · exact h'
    · rw [List.getElem?_eq_none h'] at he; cases he
  have hl := h.row.1
  have cell : ∀ q u, q < 10 → e.cs[q]? = some u → w.cell? ⟨g, k * 10 + q, none⟩ = some u := fun q u hq hu => by
    have hx : k * 10 + q < (ewCells E).length := by rw [hl]; omega
    have e1 := h.row.cellAt (k * 10 + q) (by omega)
    have e2 := ewCells_get E k q e he hq
    rw [e1, e2, hu]
  exact ⟨cell 0 _ (by decide) rfl, cell 1 _ (by decide) rfl, cell 2 _ (by decide) rfl, cell 3 _ (by decide) rfl, cell 4 _ (by decide) rfl, cell 5 _ (by decide) rfl, cell 6 _ (by decide) rfl, cell 7 _ (by decide) rfl, cell 8 _ (by decide) rfl, cell 9 _ (by decide) rfl⟩
/-- Each remembered way is one. -/
def WaysOk (a b : Shp) (th : Nat → Bool) (vr_ : Nat → Int) (W : Nat → Nat → Value) (th2 : Nat → Bool) (vr2 : Nat → Int) (E : List EW) : Prop :=
  ∀ e, e ∈ E → 0 ≤ e.sh ∧ ∀ x : Int, 0 ≤ x → x < 32 → Way a b th vr_ W th2 vr2 e.k0 e.k1 e.k2 e.k3 e.k4 5 (e.sh * 32 + x) false e.ids e.pg x e.ro 0
set_option maxRecDepth 100000 in
theorem cnew_ok (x : Int) (h1 : 1 ≤ x) (h2 : x ≤ 64) (w : World) :
    Calls Tryz.prog 167 #[.int .i64 x] w fun e w' => ∃ cb, e = .returned (.tuple #[.pointer (some ⟨cb, 0, none⟩), .nilIface]) ∧ CacheAt w' w.heap.size cb x 0 (.slice none 0 0) [] ∧ Below w.heap.size w w' := by
  have d1 : decide (x < 1) = false := decide_eq_false (by omega)
  have d2 : decide (64 < x) = false := decide_eq_false (by omega)
  go_enter Tryz.func167, Tryz.ntmps167
  go_wp2_with fail
  go_ret2
  exact ⟨_, rfl, ⟨Nat.le_refl _, by simp, by simp, by simp, by simp, fun j => by simp, World.ownsRow_nil _ _ _ _, by simp [Value.ownBlock], fun e he => by cases he⟩, (Below.refl _ _).alloc (Nat.le_refl _) _⟩
end Go.Proofs.YtncopdhhchmpeaaGreatDoor
namespace Go.Proofs.YtncopdhhchmpeaaGreatDoor
open Go.ChangeShapes Go.WideShapes Go.ChangeAt Go.RowKit
set_option linter.unusedVariables false
set_option linter.unusedSimpArgs false
/-- Is it the way from there? -/
abbrev EW.is (e : EW) (f0 f1 f2 f3 f4 f5 : Int) : Bool := e.k0 == f0 && (e.k1 == f1 && (e.k2 == f2 && (e.k3 == f3 && (e.k4 == f4 && e.sh == f5))))
/-- An origin lies there. -/
structure FromAt (w : World) (fb : Nat) (f0 f1 f2 f3 f4 f5 : Int) : Prop where
  lt : fb < w.heap.size
  c0 : w.cell? ⟨fb, 0, none⟩ = some (.int .i64 f0)
  c1 : w.cell? ⟨fb, 1, none⟩ = some (.int .i64 f1)
  c2 : w.cell? ⟨fb, 2, none⟩ = some (.int .i64 f2)
  c3 : w.cell? ⟨fb, 3, none⟩ = some (.int .i64 f3)
  c4 : w.cell? ⟨fb, 4, none⟩ = some (.int .u32 f4)
  c5 : w.cell? ⟨fb, 5, none⟩ = some (.int .u32 f5)
theorem FromAt.same {w w' : World} {fb : Nat} {f0 f1 f2 f3 f4 f5 : Int} (h : FromAt w fb f0 f1 f2 f3 f4 f5) (hs : w.heap.size ≤ w'.heap.size) (e : w'.heap[fb]? = w.heap[fb]?) : FromAt w' fb f0 f1 f2 f3 f4 f5 :=
  ⟨Nat.lt_of_lt_of_le h.lt hs, (World.cell?_of_block (a := ⟨fb, 0, none⟩) e).trans h.c0, (World.cell?_of_block (a := ⟨fb, 1, none⟩) e).trans h.c1, (World.cell?_of_block (a := ⟨fb, 2, none⟩) e).trans h.c2, (World.cell?_of_block (a := ⟨fb, 3, none⟩) e).trans h.c3, (World.cell?_of_block (a := ⟨fb, 4, none⟩) e).trans h.c4, (World.cell?_of_block (a := ⟨fb, 5, none⟩) e).trans h.c5⟩
theorem FromAt.below {w w' : World} {fb : Nat} {f0 f1 f2 f3 f4 f5 : Int} (h : FromAt w fb f0 f1 f2 f3 f4 f5) (hb : Below w.heap.size w w') : FromAt w' fb f0 f1 f2 f3 f4 f5 :=
  ⟨Nat.lt_of_lt_of_le h.lt hb.size, (hb.cell (p := ⟨fb, 0, none⟩) h.lt).trans h.c0, (hb.cell (p := ⟨fb, 1, none⟩) h.lt).trans h.c1, (hb.cell (p := ⟨fb, 2, none⟩) h.lt).trans h.c2, (hb.cell (p := ⟨fb, 3, none⟩) h.lt).trans h.c3, (hb.cell (p := ⟨fb, 4, none⟩) h.lt).trans h.c4, (hb.cell (p := ⟨fb, 5, none⟩) h.lt).trans h.c5⟩
theorem CacheAt.shape {w : World} {N cb : Nat} {size hits : Int} {v : Value} {E : List EW} (h : CacheAt w N cb size hits v E) : ∃ a c, v = .slice a E.length c := own_shape' h.row
theorem CacheAt.row1 {w : World} {N cb : Nat} {size hits : Int} {v : Value} {E : List EW} (h : CacheAt w N cb size hits v E) (hn : 0 < E.length) : ∃ g c, v = .slice (some ⟨g, 0, none⟩) E.length c := own_some' h.row hn
theorem getE {E : List EW} {k : Nat} (h : k < E.length) : ∃ e, E[k]? = some e := ⟨_, List.getElem?_eq_getElem h⟩
end Go.Proofs.YtncopdhhchmpeaaGreatDoor
namespace Go.Proofs.YtncopdhhchmpeaaGreatDoor
open Go.ChangeShapes Go.WideShapes Go.ChangeAt Go.RowKit
set_option linter.unusedVariables false
set_option linter.unusedSimpArgs false
theorem infoWay : (Tryz.prog.info? 253).map (fun i => (i.zero, i.size, i.bytes)) = some (some (.agg #[.int .i64 0, .int .i64 0, .int .i64 0, .int .i64 0, .int .u32 0, .int .u32 0, .int .i64 0, .int .i64 0, .bool false, .slice none 0 0]), 10, 96) := by kernel_rfl
section
variable {P : Program}
/-- One operation that appends to a row of one's own. -/
theorem op_append_own {o : Oper} {a : Act} {K : Act → World → Prop} {Q : Exit → Act → World → Prop} (w : World) (s x : Operand) (t : TypeId)
    (ho : o.op = .call { callee := .builtin .append, args := #[s, x], argTypes := #[t, t] })
    (base : Nat) (e : TypeId) (i : TypeInfo) (z : Value) (size bytes : Nat) (ht : P.underlying t = some (.slice e)) (hi : P.info? e = some i) (hz : i.zero = some z)
    (hsize : i.size = size) (hby : i.bytes = bytes) (hzs : z.cells.size = size) (hsz : 0 < size)
    (v : Value) (n : Nat) (xs : List Value) (hs : a.eval s = v) (hown : w.ownsRow base e size v n xs)
    (ad : Addr) (m c : Nat) (news : List Value) (hx : a.eval x = .slice (some ad) m c) (hl : news.length = m * size) (hnews : ∀ j u, news[j]? = some u → w.cell? (ad.add j) = some u) (h1 : ∀ u ∈ news, u.oneCell' = true)
    (h63 : n + m ≤ maxLen) (hbytes : (n + m) * bytes ≤ 140737488355328) (hbase : base ≤ w.heap.size)
    (h : ∀ v' w', w'.ownsRow base e size v' (n + m) (xs ++ news) → w.grownBy w' v.ownBlock → (v'.ownBlock = v.ownBlock ∨ v'.ownBlock = some w.heap.size) → K (a.put o.dst v') w') : Oper.wp P o a w K Q := by
  obtain ⟨v', w', hr, h2, h3, h4, h5⟩ := run_append_own_at (P := P) w base t o.type e i z size bytes ht hi hz hsize hby hzs hsz v n xs hown ad m c news hl hnews h1 h63 hbytes hbase
  unfold Oper.wp execOp
  simp only [ho, resolve, invoke, builtin, Sem.run_bind, Sem.run_pure, Result.andThen_ok, List.map_toArray, List.map_cons, List.map_nil, hs, hx, hr]
  exact h v' w' h2 h3 h5
end
/-- All blocks but the cache's own are as they were. -/
def KeepB (w w' : World) (cb : Nat) (v : Value) : Prop := w.heap.size ≤ w'.heap.size ∧ ∀ k, k < w.heap.size → k ≠ cb → v.ownBlock ≠ some k → w'.heap[k]? = w.heap[k]?
theorem ew_new (w : World) (d : EW) (T : TypeId) : ∀ j u, d.cs[j]? = some u → (w.alloc (.cells #[.int .i64 d.k0, .int .i64 d.k1, .int .i64 d.k2, .int .i64 d.k3, .int .u32 d.k4, .int .u32 d.sh, .int .i64 d.pg, .int .i64 d.at_, .bool d.ro, .slice d.na d.ids.length d.nc] T (0, 0))).cell? (Addr.add ⟨w.heap.size, 0, none⟩ j) = some u := by
  intro j u hj
  rw [Addr.add_mid, Nat.zero_add]
  simpa [EW.cs] using hj
theorem ew_one (d : EW) : ∀ u ∈ d.cs, u.oneCell' = true := by
  intro u hu
  simp [EW.cs] at hu
  rcases hu with rfl | rfl | rfl | rfl | rfl | rfl | rfl | rfl | rfl | rfl <;> rfl
/-- A way in a box. -/
structure WayAt (w : World) (b : Nat) (d : EW) : Prop where
  lt : b < w.heap.size
  c0 : w.cell? ⟨b, 0, none⟩ = some (.int .i64 d.k0)
  c1 : w.cell? ⟨b, 1, none⟩ = some (.int .i64 d.k1)
  c2 : w.cell? ⟨b, 2, none⟩ = some (.int .i64 d.k2)
  c3 : w.cell? ⟨b, 3, none⟩ = some (.int .i64 d.k3)
  c4 : w.cell? ⟨b, 4, none⟩ = some (.int .u32 d.k4)
  c5 : w.cell? ⟨b, 5, none⟩ = some (.int .u32 d.sh)
  c6 : w.cell? ⟨b, 6, none⟩ = some (.int .i64 d.pg)
  c7 : w.cell? ⟨b, 7, none⟩ = some (.int .i64 d.at_)
  c8 : w.cell? ⟨b, 8, none⟩ = some (.bool d.ro)
  c9 : w.cell? ⟨b, 9, none⟩ = some (.slice d.na d.ids.length d.nc)
theorem WayAt.same {w w' : World} {b : Nat} {d : EW} (h : WayAt w b d) (hs : w.heap.size ≤ w'.heap.size) (e : w'.heap[b]? = w.heap[b]?) : WayAt w' b d :=
  ⟨Nat.lt_of_lt_of_le h.lt hs, (World.cell?_of_block (a := ⟨b, 0, none⟩) e).trans h.c0, (World.cell?_of_block (a := ⟨b, 1, none⟩) e).trans h.c1, (World.cell?_of_block (a := ⟨b, 2, none⟩) e).trans h.c2, (World.cell?_of_block (a := ⟨b, 3, none⟩) e).trans h.c3, (World.cell?_of_block (a := ⟨b, 4, none⟩) e).trans h.c4, (World.cell?_of_block (a := ⟨b, 5, none⟩) e).trans h.c5, (World.cell?_of_block (a := ⟨b, 6, none⟩) e).trans h.c6, (World.cell?_of_block (a := ⟨b, 7, none⟩) e).trans h.c7, (World.cell?_of_block (a := ⟨b, 8, none⟩) e).trans h.c8, (World.cell?_of_block (a := ⟨b, 9, none⟩) e).trans h.c9⟩
theorem WayAt.below {w w' : World} {b : Nat} {d : EW} (h : WayAt w b d) (hb : Below w.heap.size w w') : WayAt w' b d := h.same hb.size (hb.block b h.lt)
theorem WayAt.new (w : World) (d : EW) (T : TypeId) : WayAt (w.alloc (.cells #[.int .i64 d.k0, .int .i64 d.k1, .int .i64 d.k2, .int .i64 d.k3, .int .u32 d.k4, .int .u32 d.sh, .int .i64 d.pg, .int .i64 d.at_, .bool d.ro, .slice d.na d.ids.length d.nc] T (0, 0))) w.heap.size d := ⟨by simp, by simp, by simp, by simp, by simp, by simp, by simp, by simp, by simp, by simp, by simp⟩
theorem WayAt.all {w : World} {b : Nat} {d : EW} (h : WayAt w b d) : (World.cell? w ⟨b, 0, none⟩ = some (.int .i64 d.k0) ∧ World.cell? w ⟨b, 1, none⟩ = some (.int .i64 d.k1) ∧ World.cell? w ⟨b, 2, none⟩ = some (.int .i64 d.k2) ∧ World.cell? w ⟨b, 3, none⟩ = some (.int .i64 d.k3) ∧ World.cell? w ⟨b, 4, none⟩ = some (.int .u32 d.k4) ∧ World.cell? w ⟨b, 5, none⟩ = some (.int .u32 d.sh) ∧ World.cell? w ⟨b, 6, none⟩ = some (.int .i64 d.pg) ∧ World.cell? w ⟨b, 7, none⟩ = some (.int .i64 d.at_) ∧ World.cell? w ⟨b, 8, none⟩ = some (.bool d.ro) ∧ World.cell? w ⟨b, 9, none⟩ = some (.slice d.na d.ids.length d.nc)) := ⟨h.c0, h.c1, h.c2, h.c3, h.c4, h.c5, h.c6, h.c7, h.c8, h.c9⟩
/-- What comes of a push. -/
theorem cache_pushed {N cb n : Nat} {size hits : Int} {va vb : Option Addr} {vc vd : Nat} {E : List EW} {d : EW} {w wC w9 : World} (hn : E.length = n) (hN : N ≤ w.heap.size) (h : CacheAt w N cb size hits (.slice va n vc) E) (hd : NodesIn w N cb (.slice va n vc) d) (hb : Below w.heap.size w wC) (h2 : CacheAt wC N cb size hits (.slice va n vc) E) {o : Obj}
    (hown : w9.ownsRow N 253 10 (.slice vb (n + 1) vd) (n + 1) (ewCells E ++ d.cs)) (hg : ((wC.alloc o).drew).grownBy w9 (Value.slice va n vc).ownBlock) (hloc : (Value.slice vb (n + 1) vd).ownBlock = (Value.slice va n vc).ownBlock ∨ (Value.slice vb (n + 1) vd).ownBlock = some ((wC.alloc o).drew).heap.size) :
    CacheAt (w9.setCell ⟨cb, 2, none⟩ (.slice vb (n + 1) vd)) N cb size hits (.slice vb (n + 1) vd) (E ++ [d]) ∧ Below N w (w9.setCell ⟨cb, 2, none⟩ (.slice vb (n + 1) vd)) ∧ KeepB w (w9.setCell ⟨cb, 2, none⟩ (.slice vb (n + 1) vd)) cb (.slice va n vc) := by
  have hs := hb.size
  have hs9 : wC.heap.size + 1 ≤ w9.heap.size := by have := hg.size; simpa using this
  have hz : ((wC.alloc o).drew).heap.size = wC.heap.size + 1 := by simp
  have hcl := h.cl
  have keep : ∀ k, k < w.heap.size → k ≠ cb → (Value.slice va n vc).ownBlock ≠ some k → (w9.setCell ⟨cb, 2, none⟩ (.slice vb (n + 1) vd)).heap[k]? = w.heap[k]? := fun k hk hkc hkv => by
    rw [Below.heap_setCell _ _ _ _ (show k ≠ cb from hkc), hg.block k (by rw [hz]; omega) (fun e => hkv e.symm)]
    exact ((((Below.refl wC.heap.size wC).alloc (Nat.le_refl _) o).drew).block k (by omega)).trans (hb.block k hk)
  have hcb : w9.heap[cb]? = wC.heap[cb]? := by
    rw [hg.block cb (by rw [hz]; have := h2.cl; omega) (fun e => h2.ne e.symm)]
    exact (((Below.refl wC.heap.size wC).alloc (Nat.le_refl _) o).drew).block cb h2.cl
  have hvn : ∀ g, g < w.heap.size → (Value.slice va n vc).ownBlock ≠ some g → (Value.slice vb (n + 1) vd).ownBlock ≠ some g := fun g hgs hne e => by
    rcases hloc with e' | e'
    · exact hne (by rw [← e', e])
    · rw [e'] at e; injection e with e; rw [hz] at e; omega
  have hnd : ∀ e, NodesIn w N cb (.slice va n vc) e → NodesIn (w9.setCell ⟨cb, 2, none⟩ (.slice vb (n + 1) vd)) N cb (.slice vb (n + 1) vd) e := fun e he i hi => by
    obtain ⟨g, o', h1, h2', h3, h4, h5, h6⟩ := he i hi
    exact ⟨g, o', h1, h2', by simp; omega, h4, hvn g h3 h5, (World.cell?_of_block (a := ⟨g, o' + i, none⟩) (keep g h3 h4 h5)).trans h6⟩
  have hne : (Value.slice vb (n + 1) vd).ownBlock ≠ some cb := hvn cb hcl h.ne
  have hlen : (E ++ [d]).length = n + 1 := by simp [hn]
  have cc : ∀ q u, q ≠ 2 → wC.cell? ⟨cb, q, none⟩ = some u → (w9.setCell ⟨cb, 2, none⟩ (.slice vb (n + 1) vd)).cell? ⟨cb, q, none⟩ = some u := fun q u hq hu => by
    rw [World.cell?_setCell_other _ _ _ _ (by intro e; injection e with _ e; exact hq e.symm)]
    exact (World.cell?_of_block (a := ⟨cb, q, none⟩) hcb).trans hu
  refine ⟨⟨h.nb, by simp; omega, cc 0 _ (by decide) h2.c0, cc 1 _ (by decide) h2.c1, ?_, fun j => ?_, ?_, hne, fun e he => ?_⟩, ?_, ⟨by simp; omega, keep⟩⟩
  · exact World.cell?_setCell_same _ _ _ ((World.cell?_of_block (a := ⟨cb, 2, none⟩) hcb).trans h2.c2)
  · rw [World.frozen?_setCell]
    exact (World.frozen?_of_block (a := ⟨cb, j, none⟩) hcb).trans (h2.fr j)
  · rw [hlen, ewCells_snoc]
    exact row_same' hown (fun g hg' => Below.heap_setCell _ _ _ _ (show g ≠ cb from fun e => hne (by rw [hg', e])))
  · rcases List.mem_append.1 he with he | he
    · exact hnd e (h.nd e he)
    · simp at he; subst he; exact hnd e hd
  · refine Below.setCell (Below.grown ((((hb.mono hN).alloc (by omega) o)).drew) hg (by rw [hz]; omega) (fun g hg' => (h2.row.lt g hg').1)) h.nb _
end Go.Proofs.YtncopdhhchmpeaaGreatDoor
namespace Go.Proofs.YtncopdhhchmpeaaGreatDoor
open Go.ChangeShapes Go.WideShapes Go.ChangeAt Go.RowKit
set_option linter.unusedVariables false
set_option linter.unusedSimpArgs false
/-- The first that is so. -/
theorem firstE (p : EW → Bool) : ∀ E : List EW, (∀ e, e ∈ E → p e = false) ∨ ∃ (j : Nat) (d : EW), E[j]? = some d ∧ p d = true ∧ ∀ (i : Nat) (e : EW), i < j → E[i]? = some e → p e = false := by
  intro E
  induction E with
  | nil => exact .inl (fun e he => by cases he)
  | cons x E ih =>
    cases hx : p x with
    | true => exact .inr ⟨0, x, rfl, hx, fun i e hi => by omega⟩
    | false =>
      rcases ih with h | ⟨j, d, h1, h2, h3⟩
      · exact .inl (fun e he => by rcases List.mem_cons.1 he with rfl | he; exact hx; exact h e he)
      · refine .inr ⟨j + 1, d, by simpa using h1, h2, fun i e hi he => ?_⟩
        cases i with
        | zero => simp at he; rw [← he]; exact hx
        | succ i => exact h3 i e (by omega) (by simpa using he)
theorem from_new (w : World) (o o' : Obj) (f0 f1 f2 f3 f4 f5 : Int) (T : TypeId) : FromAt (((w.alloc o).alloc o').alloc (.cells #[.int .i64 f0, .int .i64 f1, .int .i64 f2, .int .i64 f3, .int .u32 f4, .int .u32 f5] T (0, 0))) (w.heap.size + 1 + 1) f0 f1 f2 f3 f4 f5 := by
  have e : ((w.alloc o).alloc o').heap.size = w.heap.size + 1 + 1 := by simp
  have n3 := fun j => new3 w o o' #[.int .i64 f0, .int .i64 f1, .int .i64 f2, .int .i64 f3, .int .u32 f4, .int .u32 f5] T j
  exact ⟨(n3 0).2.2, (n3 0).1, (n3 1).1, (n3 2).1, (n3 3).1, (n3 4).1, (n3 5).1⟩
theorem key_new1 (w : World) (o o' : Obj) (k0 k1 k2 k3 k4 : Int) (T : TypeId) : KeyC (((w.alloc (.cells #[.int .i64 k0, .int .i64 k1, .int .i64 k2, .int .i64 k3, .int .u32 k4] T (0, 0))).alloc o).alloc o') w.heap.size k0 k1 k2 k3 k4 :=
  ((KeyC.new w k0 k1 k2 k3 k4 T).below ((Below.refl _ _).alloc (Nat.le_refl _) o)).below ((Below.refl _ _).alloc (Nat.le_refl _) o')
/-- No way's numbers lie in block x. -/
def NoNode (E : List EW) (x : Nat) : Prop := ∀ e, e ∈ E → 0 < e.ids.length → ∀ g o, e.na = some ⟨g, o, none⟩ → g ≠ x
theorem KeyC.same' {w w' : World} {b : Nat} {k0 k1 k2 k3 k4 : Int} (h : KeyC w b k0 k1 k2 k3 k4) (hs : w.heap.size ≤ w'.heap.size) (e : w'.heap[b]? = w.heap[b]?) : KeyC w' b k0 k1 k2 k3 k4 :=
  ⟨Nat.lt_of_lt_of_le h.lt hs, (World.cell?_of_block (a := ⟨b, 0, none⟩) e).trans h.c0, (World.cell?_of_block (a := ⟨b, 1, none⟩) e).trans h.c1, (World.cell?_of_block (a := ⟨b, 2, none⟩) e).trans h.c2, (World.cell?_of_block (a := ⟨b, 3, none⟩) e).trans h.c3, (World.cell?_of_block (a := ⟨b, 4, none⟩) e).trans h.c4, fun j => (World.frozen?_of_block (a := ⟨b, j, none⟩) e).trans (h.fr j)⟩
theorem CacheAt.put {w : World} {N cb : Nat} {size hits : Int} {v : Value} {E : List EW} (h : CacheAt w N cb size hits v E) (x j : Nat) (h1 : cb ≠ x) (h2 : v.ownBlock ≠ some x) (h3 : ∀ e, e ∈ E → 0 < e.ids.length → ∀ g o, e.na = some ⟨g, o, none⟩ → g ≠ x) (u : Value) : CacheAt (w.setCell ⟨x, j, none⟩ u) N cb size hits v E := by
  have e := set_heap w x cb j u h1
  refine ⟨h.nb, by simpa using h.cl, (World.cell?_of_block (a := ⟨cb, 0, none⟩) e).trans h.c0, (World.cell?_of_block (a := ⟨cb, 1, none⟩) e).trans h.c1, (World.cell?_of_block (a := ⟨cb, 2, none⟩) e).trans h.c2, fun j => (World.frozen?_of_block (a := ⟨cb, j, none⟩) e).trans (h.fr j), row_same' h.row (fun g hg => set_heap _ _ _ _ _ (fun e => h2 (by rw [hg, e]))), h.ne, fun d hd i hi => ?_⟩
  obtain ⟨g, o, a1, a2, a3, a4, a5, a6⟩ := h.nd d hd i hi
  exact ⟨g, o, a1, a2, by simpa using a3, a4, a5, (World.cell?_of_block (a := ⟨g, o + i, none⟩) (set_heap _ _ _ _ _ (h3 d hd (by omega) g o a1))).trans a6⟩
theorem CacheAt.put3 {w : World} {N cb : Nat} {size hits : Int} {v : Value} {E : List EW} (h : CacheAt w N cb size hits v E) (x : Nat) (h1 : cb ≠ x) (h2 : v.ownBlock ≠ some x) (h3 : ∀ e, e ∈ E → 0 < e.ids.length → ∀ g o, e.na = some ⟨g, o, none⟩ → g ≠ x) (u0 u1 u2 : Value) : CacheAt (((w.setCell ⟨x, 0, none⟩ u0).setCell ⟨x, 1, none⟩ u1).setCell ⟨x, 2, none⟩ u2) N cb size hits v E :=
  ((h.put x 0 h1 h2 h3 u0).put x 1 h1 h2 h3 u1).put x 2 h1 h2 h3 u2
theorem nodes_new {w : World} {M N cb : Nat} {v : Value} {na : Option Addr} {nc : Nat} {ids : List Int} (hr : w.ownsRow M 3 1 (.slice na ids.length nc) ids.length (ids.map (Value.int .i64))) (h1 : N ≤ M) (h2 : cb < M) (h3 : ∀ g, v.ownBlock = some g → g < M) {k0 k1 k2 k3 k4 sh pg at_ : Int} {r : Bool} : NodesIn w N cb v ⟨k0, k1, k2, k3, k4, sh, pg, at_, r, ids, na, nc⟩ := by
  intro i hi
  obtain ⟨g, c, e⟩ := own_some' hr (by show 0 < ids.length; have : i < ids.length := hi; omega)
  simp only [Value.slice.injEq] at e
  obtain ⟨rfl, -, -⟩ := e
  have hl := hr.lt g rfl
  refine ⟨g, 0, rfl, by omega, hl.2, by omega, fun e => by have := h3 g e; omega, ?_⟩
  have hi' : i < ids.length := hi
  rw [Nat.zero_add, hr.cellAt i (by omega)]
  simp [List.getD, hi']
theorem CacheAt.hit {w : World} {N cb : Nat} {size hits : Int} {v : Value} {E : List EW} (h : CacheAt w N cb size hits v E) (x : Int) : CacheAt (w.setCell ⟨cb, 1, none⟩ (.int .i64 x)) N cb size x v E := by
  refine ⟨h.nb, by simpa using h.cl, ?_, World.cell?_setCell_same _ _ _ h.c1, ?_, fun j => by simpa using h.fr j, row_same' h.row (fun g hg => Below.heap_setCell _ _ _ _ (show g ≠ cb from fun e => h.ne (by rw [hg, e]))), h.ne, fun d hd i hi => ?_⟩
  · rw [World.cell?_setCell_other _ _ _ _ (by simp)]; exact h.c0
  · rw [World.cell?_setCell_other _ _ _ _ (by simp)]; exact h.c2
  · obtain ⟨g, o, a1, a2, a3, a4, a5, a6⟩ := h.nd d hd i hi
    exact ⟨g, o, a1, a2, by simpa using a3, a4, a5, (World.cell?_of_block (a := ⟨g, o + i, none⟩) (Below.heap_setCell _ _ _ _ (show g ≠ cb from a4))).trans a6⟩
theorem CacheAt.noNode {w : World} {N cb : Nat} {size hits : Int} {v : Value} {E : List EW} (h : CacheAt w N cb size hits v E) (x : Nat) (hx : w.heap.size ≤ x) : NoNode E x := fun e he hl g o hna => by
  obtain ⟨g2, o2, b1, b2, b3, b4, b5, b6⟩ := h.nd e he 0 hl
  rw [hna] at b1
  injection b1 with b1
  injection b1 with b1 b1'
  omega
theorem PlC.far1 {w : World} {b : Nat} {x y : Int} {r : Bool} (h : PlC w b x y r) (g j : Nat) (hg : b ≠ g) (u : Value) : PlC (w.setCell ⟨g, j, none⟩ u) b x y r :=
  h.same (by simp) (set_heap _ _ _ _ _ hg)
/-- A new way, from what a walk told. -/
theorem ways_more {a b : Shp} {th : Nat → Bool} {vr_ : Nat → Int} {W : Nat → Nat → Value} {th2 : Nat → Bool} {vr2 : Nat → Int} {E : List EW} {k0 k1 k2 k3 k4 pg at_ : Int} {ad : Nat} {r : Bool} {ids : List Int} {na : Option Addr} {nc : Nat} (ok : WaysOk a b th vr_ W th2 vr2 E) (hw : Way a b th vr_ W th2 vr2 k0 k1 k2 k3 k4 5 ad false ids pg at_ r 0) : WaysOk a b th vr_ W th2 vr2 (E ++ [⟨k0, k1, k2, k3, k4, (ad : Int) / 32, pg, at_, r, ids, na, nc⟩]) := by
  intro e he
  rcases List.mem_append.1 he with he | he
  · exact ok e he
  · simp at he
    subst he
    exact ⟨by show (0 : Int) ≤ (ad : Int) / 32; omega, (hw.sheet rfl).2⟩
/-- What is remembered is what a walk tells. -/
theorem ways_hit {a b : Shp} {th : Nat → Bool} {vr_ : Nat → Int} {W : Nat → Nat → Value} {th2 : Nat → Bool} {vr2 : Nat → Int} {E : List EW} {k0 k1 k2 k3 k4 pg at_ f : Int} {ad : Nat} {r : Bool} {ids : List Int} (ok : WaysOk a b th vr_ W th2 vr2 E) (hw : Way a b th vr_ W th2 vr2 k0 k1 k2 k3 k4 5 ad false ids pg at_ r f) {d : EW} (hd : d ∈ E) (hi : d.is k0 k1 k2 k3 k4 ((ad : Int) / 32) = true) : d.pg = pg ∧ d.ro = r ∧ f = 0 ∧ at_ = (ad : Int) % 32 := by
  simp only [EW.is, Bool.and_eq_true, beq_iff_eq] at hi
  obtain ⟨e0, e1, e2, e3, e4, e5⟩ := hi
  have h := (ok d hd).2 ((ad : Int) % 32) (by omega) (by omega)
  rw [e0, e1, e2, e3, e4, e5, show (ad : Int) / 32 * 32 + (ad : Int) % 32 = ad by omega] at h
  obtain ⟨_, h2, h3, h4, h5⟩ := h.det hw
  exact ⟨h2, h4, h5.symm, h3.symm⟩
end Go.Proofs.YtncopdhhchmpeaaGreatDoor
namespace Go.Proofs.YtncopdhhchmpeaaGreatDoor
open Go.ChangeShapes Go.WideShapes Go.ChangeAt Go.RowKit
set_option linter.unusedVariables false
set_option linter.unusedSimpArgs false
/-- A block that is none of the cache's. -/
def OutC (cb : Nat) (v : Value) (x : Nat) : Prop := x ≠ cb ∧ v.ownBlock ≠ some x
theorem OutC.next {cb : Nat} {v v' : Value} {x M : Nat} (h : OutC cb v x) (hx : x < M) (hv : v'.ownBlock = v.ownBlock ∨ ∃ g, M ≤ g ∧ v'.ownBlock = some g) : OutC cb v' x := by
  refine ⟨h.1, fun e => ?_⟩
  rcases hv with e' | ⟨g, hg, e'⟩
  · exact h.2 (by rw [← e', e])
  · rw [e'] at e; injection e with e; omega
/-- A memory over a law's start: a store, a cache over it. -/
structure MemAt (w0 w : World) (mb S : Nat) (a b : Shp) (N cb : Nat) (size : Int) (th : Nat → Bool) (vr_ : Nat → Int) (W : Nat → Nat → Value) (th2 : Nat → Bool) (vr2 : Nat → Int) (W2 : Nat → Nat → Int) (hits : Int) (v : Value) (E : List EW) : Prop where
  sv : SV w0 w S a b th vr_ W th2 vr2 W2
  lo : StLo S a b N
  n0 : w0.heap.size ≤ N
  nN : N ≤ w.heap.size
  m0 : w.cell? ⟨mb, 0, none⟩ = some (.pointer (some ⟨S, 0, none⟩))
  m1 : w.cell? ⟨mb, 1, none⟩ = some (.pointer (some ⟨cb, 0, none⟩))
  ml : mb < w.heap.size
  mn : N ≤ mb
  mo : OutC cb v mb
  ca : CacheAt w N cb size hits v E
  ok : WaysOk a b th vr_ W th2 vr2 E
section
variable {w w' : World}
theorem MemAt.below {w0 : World} {mb S : Nat} {a b : Shp} {N cb : Nat} {size : Int} {th : Nat → Bool} {vr_ : Nat → Int} {W : Nat → Nat → Value} {th2 : Nat → Bool} {vr2 : Nat → Int} {W2 : Nat → Nat → Int} {hits : Int} {v : Value} {E : List EW} (h : (MemAt w0 w mb S a b N cb size th vr_ W th2 vr2 W2 hits v E)) (hb : Below w.heap.size w w') : (MemAt w0 w' mb S a b N cb size th vr_ W th2 vr2 W2 hits v E) :=
  ⟨h.sv.step hb, h.lo, h.n0, Nat.le_trans h.nN hb.size, (hb.cell (p := ⟨mb, 0, none⟩) h.ml).trans h.m0, (hb.cell (p := ⟨mb, 1, none⟩) h.ml).trans h.m1, Nat.lt_of_lt_of_le h.ml hb.size, h.mn, h.mo, h.ca.below hb, h.ok⟩
theorem MemAt.found {w0 : World} {mb S : Nat} {a b : Shp} {N cb : Nat} {size : Int} {th : Nat → Bool} {vr_ : Nat → Int} {W : Nat → Nat → Value} {th2 : Nat → Bool} {vr2 : Nat → Int} {W2 : Nat → Nat → Int} {hits : Int} {v : Value} {E : List EW} (h : (MemAt w0 w mb S a b N cb size th vr_ W th2 vr2 W2 hits v E)) {hits' : Int} {v' : Value} {E' : List EW} (hb : Below N w w') (hc : CacheAt w' N cb size hits' v' E') (ok : WaysOk a b th vr_ W th2 vr2 E') (hk : KeepB w w' cb v) (hv : v'.ownBlock = v.ownBlock ∨ ∃ g, w.heap.size ≤ g ∧ v'.ownBlock = some g) : MemAt w0 w' mb S a b N cb size th vr_ W th2 vr2 W2 hits' v' E' := by
  have e := hk.2 mb h.ml h.mo.1 h.mo.2
  refine ⟨⟨h.sv.bel.trans (hb.mono h.n0), h.sv.wb, h.sv.st.under h.lo hk.1 (fun k hkN => hb.block k hkN)⟩, h.lo, h.n0, Nat.le_trans h.nN hk.1, (World.cell?_of_block (a := ⟨mb, 0, none⟩) e).trans h.m0, (World.cell?_of_block (a := ⟨mb, 1, none⟩) e).trans h.m1, Nat.lt_of_lt_of_le h.ml hk.1, h.mn, h.mo.next h.ml hv, hc, ok⟩
/-- The store's pages were written; the ways stay. -/
theorem MemAt.page {w0 : World} {mb S : Nat} {a b : Shp} {N cb : Nat} {size : Int} {th : Nat → Bool} {vr_ : Nat → Int} {W : Nat → Nat → Value} {th2 : Nat → Bool} {vr2 : Nat → Int} {W2 : Nat → Nat → Int} {hits : Int} {v : Value} {E : List EW} (h : (MemAt w0 w mb S a b N cb size th vr_ W th2 vr2 W2 hits v E)) {th2' : Nat → Bool} {vr2' : Nat → Int} {W2' : Nat → Nat → Int} (hP : PgAt w' b.b b.P b.p b.B b.G b.n b.c th2' vr2' W2') (hb : PBelow w w' b.B b.G) (ok : WaysOk a b th vr_ W th2' vr2' E) : MemAt w0 w' mb S a b N cb size th vr_ W th2' vr2' W2' hits v E := by
  have hl := h.lo.p
  have e := hb.2.2.2.2 mb h.ml (by have := h.mn; omega) (by have := h.mn; omega)
  exact ⟨h.sv.page hP hb, h.lo, h.n0, Nat.le_trans h.nN hb.2.2.2.1, (World.cell?_of_block (a := ⟨mb, 0, none⟩) e).trans h.m0, (World.cell?_of_block (a := ⟨mb, 1, none⟩) e).trans h.m1, Nat.lt_of_lt_of_le h.ml hb.2.2.2.1, h.mn, h.mo, h.ca.same hb.2.2.2.1 (fun k hk hks => hb.2.2.2.2 k hks (by omega) (by omega)), ok⟩
theorem MemAt.node {w0 : World} {mb S : Nat} {a b : Shp} {N cb : Nat} {size : Int} {th : Nat → Bool} {vr_ : Nat → Int} {W : Nat → Nat → Value} {th2 : Nat → Bool} {vr2 : Nat → Int} {W2 : Nat → Nat → Int} {hits : Int} {v : Value} {E : List EW} (h : (MemAt w0 w mb S a b N cb size th vr_ W th2 vr2 W2 hits v E)) {th' : Nat → Bool} {vr' : Nat → Int} {W' : Nat → Nat → Value} (hN : NdAt w' a.b a.P a.p a.B a.G a.n a.c th' vr' W') (hb : PBelow w w' a.B a.G) (ok : WaysOk a b th' vr' W' th2 vr2 E) : MemAt w0 w' mb S a b N cb size th' vr' W' th2 vr2 W2 hits v E := by
  have hl := h.lo.n
  have e := hb.2.2.2.2 mb h.ml (by have := h.mn; omega) (by have := h.mn; omega)
  exact ⟨h.sv.node hN hb, h.lo, h.n0, Nat.le_trans h.nN hb.2.2.2.1, (World.cell?_of_block (a := ⟨mb, 0, none⟩) e).trans h.m0, (World.cell?_of_block (a := ⟨mb, 1, none⟩) e).trans h.m1, Nat.lt_of_lt_of_le h.ml hb.2.2.2.1, h.mn, h.mo, h.ca.same hb.2.2.2.1 (fun k hk hks => hb.2.2.2.2 k hks (by omega) (by omega)), ok⟩
theorem MemAt.put {w0 : World} {mb S : Nat} {a b : Shp} {N cb : Nat} {size : Int} {th : Nat → Bool} {vr_ : Nat → Int} {W : Nat → Nat → Value} {th2 : Nat → Bool} {vr2 : Nat → Int} {W2 : Nat → Nat → Int} {hits : Int} {v : Value} {E : List EW} (h : (MemAt w0 w mb S a b N cb size th vr_ W th2 vr2 W2 hits v E)) (x j : Nat) (hx : N ≤ x) (h1 : cb ≠ x) (h2 : mb ≠ x) (h3 : v.ownBlock ≠ some x) (h4 : NoNode E x) (u : Value) : MemAt w0 (w.setCell ⟨x, j, none⟩ u) mb S a b N cb size th vr_ W th2 vr2 W2 hits v E := by
  have e := set_heap w x mb j u h2
  exact ⟨h.sv.put1 h.lo x j hx h.n0 u, h.lo, h.n0, by simpa using h.nN, (World.cell?_of_block (a := ⟨mb, 0, none⟩) e).trans h.m0, (World.cell?_of_block (a := ⟨mb, 1, none⟩) e).trans h.m1, by simpa using h.ml, h.mn, h.mo, h.ca.put x j h1 h3 h4 u, h.ok⟩
theorem MemAt.put3 {w0 : World} {mb S : Nat} {a b : Shp} {N cb : Nat} {size : Int} {th : Nat → Bool} {vr_ : Nat → Int} {W : Nat → Nat → Value} {th2 : Nat → Bool} {vr2 : Nat → Int} {W2 : Nat → Nat → Int} {hits : Int} {v : Value} {E : List EW} (h : (MemAt w0 w mb S a b N cb size th vr_ W th2 vr2 W2 hits v E)) (x : Nat) (hx : N ≤ x) (h1 : cb ≠ x) (h2 : mb ≠ x) (h3 : v.ownBlock ≠ some x) (h4 : NoNode E x) (u0 u1 u2 : Value) : MemAt w0 (((w.setCell ⟨x, 0, none⟩ u0).setCell ⟨x, 1, none⟩ u1).setCell ⟨x, 2, none⟩ u2) mb S a b N cb size th vr_ W th2 vr2 W2 hits v E :=
  ((h.put x 0 hx h1 h2 h3 h4 u0).put x 1 hx h1 h2 h3 h4 u1).put x 2 hx h1 h2 h3 h4 u2
end
theorem PlC.newB (w : World) (o : Obj) (x y : Int) (r : Bool) (T : TypeId) : PlC ((w.alloc o).alloc (.cells #[.int .i64 x, .int .i64 y, .bool r] T (0, 0))) (w.heap.size + 1) x y r := by
  have h := PlC.new (w.alloc o) x y r T
  rw [show (w.alloc o).heap.size = w.heap.size + 1 by simp] at h
  exact h
theorem ways_nil {a b : Shp} {th : Nat → Bool} {vr_ : Nat → Int} {W : Nat → Nat → Value} {th2 : Nat → Bool} {vr2 : Nat → Int} : WaysOk a b th vr_ W th2 vr2 [] := fun e he => by cases he
/-- Where a way leads to is a page that is there. -/
theorem Way.page_in {a b : Shp} {th : Nat → Bool} {vr_ : Nat → Int} {W : Nat → Nat → Value} {th2 : Nat → Bool} {vr2 : Nat → Int} {k0 k1 k2 k3 k4 below addr : Int} {ro : Bool} {ids : List Int} {pg at_ : Int} {r : Bool} {f : Int} (h : Way a b th vr_ W th2 vr2 k0 k1 k2 k3 k4 below addr ro ids pg at_ r f) (hf : f = 0) : ∃ i x : Nat, pg = i ∧ i < b.n ∧ th2 i = true ∧ at_ = x ∧ x < 32 := by
  induction h with
  | fault s t l f h0 hs hl hz hf' => subst hf; simp at hf'
  | page h0 a0 hl ha =>
    simp [liveB, thereB] at hl
    exact ⟨_, _, (Int.toNat_of_nonneg hl.1.1.1).symm, by omega, hl.1.2, (Int.toNat_of_nonneg a0).symm, by omega⟩
  | node h i q r0 p ad y0 y1 y2 y3 y4 hk hp ha had h1 h4 hl hd hi hn' ht hq hr hy next ih => exact ih hf
end Go.Proofs.YtncopdhhchmpeaaGreatDoor
namespace Go.Proofs.YtncopdhhchmpeaaGreatDoor
open Go.ChangeShapes Go.WideShapes Go.ChangeAt Go.RowKit
set_option linter.unusedVariables false
set_option linter.unusedSimpArgs false
/-- What lies above the store, and is none of the cache's, is as it was. -/
def KeepM (w w' : World) (N cb : Nat) (v : Value) : Prop := w.heap.size ≤ w'.heap.size ∧ ∀ k, N ≤ k → k < w.heap.size → k ≠ cb → v.ownBlock ≠ some k → w'.heap[k]? = w.heap[k]?
end Go.Proofs.YtncopdhhchmpeaaGreatDoor
namespace Go.Proofs.YtncopdhhchmpeaaGreatDoor
open Go.ChangeShapes Go.WideShapes Go.ChangeAt Go.RowKit
set_option linter.unusedVariables false
set_option linter.unusedSimpArgs false
end Go.Proofs.YtncopdhhchmpeaaGreatDoor
namespace Go.Proofs.YtncopdhhchmpeaaGreatDoor
open Go.ChangeShapes Go.WideShapes Go.ChangeAt Go.RowKit
set_option linter.unusedVariables false
set_option linter.unusedSimpArgs false
set_option maxRecDepth 100000 in
theorem mover_ok (S : Nat) (z : Int) (h1 : 1 ≤ z) (h2 : z ≤ 64) (w : World) :
    Calls Tryz.prog 126 #[.pointer (some ⟨S, 0, none⟩), .int .i64 z] w fun e w' => ∃ mb cb, e = .returned (.tuple #[.pointer (some ⟨mb, 0, none⟩), .nilIface]) ∧ CacheAt w' w.heap.size cb z 0 (.slice none 0 0) [] ∧ (w.heap.size ≤ mb ∧ mb < w'.heap.size ∧ mb ≠ cb ∧ w'.cell? ⟨mb, 0, none⟩ = some (.pointer (some ⟨S, 0, none⟩)) ∧ w'.cell? ⟨mb, 1, none⟩ = some (.pointer (some ⟨cb, 0, none⟩))) ∧ Below w.heap.size w w' := by
  go_enter Tryz.func126, Tryz.ntmps126
  go_wp2_with (first
    | (go_at_call 167; (with_reducible refine (cnew_ok z h1 h2 _).mono ?_); rintro e w1 ⟨cb, rfl, hc, hb⟩; have HC := Lib.hid hc; have HB := Lib.hid hb; clear hc hb))
  go_ret2
  exact ⟨w1.heap.size, cb, rfl, HC.out.below ((Below.refl _ _).alloc (Nat.le_refl _) _), ⟨HB.out.size, by simp, by have := HC.out.cl; omega, by simp, by simp⟩, HB.out.alloc HB.out.size _⟩
set_option maxRecDepth 100000 in
theorem mnew_ok (x y z : Int) (n m : Nat) (hx : Hid (x = n)) (hy : Hid (y = m)) (h1 : 1 ≤ n) (h2 : n ≤ 256) (h3 : 1 ≤ m) (h4 : m ≤ 256) (z1 : 1 ≤ z) (z2 : z ≤ 64) (w : World) :
    Calls Tryz.prog 83 #[.int .i64 x, .int .i64 y, .int .i64 z] w fun e w' => ∃ mb S a b N cb, e = .returned (.tuple #[.pointer (some ⟨mb, 0, none⟩), .nilIface]) ∧ MemAt w w' mb S a b N cb z (fun _ => false) (fun _ => 0) (fun _ b => zc b) (fun _ => false) (fun _ => 0) (fun _ _ => 0) 0 (.slice none 0 0) [] ∧ Hid (a.n = n ∧ b.n = m) := by
  go_enter Tryz.func83, Tryz.ntmps83
  go_wp2_with (first
    | (go_at_call 125; (with_reducible refine (snew_ok x y n m hx hy h1 h2 h3 h4 _).mono ?_); rintro e w1 ⟨S, a, b, rfl, hs, hn, hb⟩; have HS : Hid (SV w w1 S a b _ _ _ _ _ _) := Lib.hid ⟨hb, by rw [hn.out.2.2]; exact Nat.le_refl _, hs⟩; have HN := Lib.hid hn.out; clear hs hn hb)
    | (go_at_call 126; (with_reducible refine (mover_ok S z z1 z2 _).mono ?_); rintro e w2 ⟨mb, cb, rfl, hc, hm, hb⟩; have HC := Lib.hid hc; have HM := Lib.hid hm; have HB := Lib.hid hb; clear hc hm hb))
  go_ret2
  obtain ⟨m1, m2, m3, m4, m5⟩ := HM.out
  exact ⟨mb, S, a, b, w1.heap.size, cb, rfl, ⟨HS.out.step HB.out, HS.out.st.lo, HS.out.bel.size, HB.out.size, m4, m5, m2, m1, ⟨m3, by simp [Value.ownBlock]⟩, HC.out, ways_nil⟩, Lib.hid ⟨HN.out.1, HN.out.2.1⟩⟩
end Go.Proofs.YtncopdhhchmpeaaGreatDoor
namespace Go.Proofs.YtncopdhhchmpeaaGreatDoor
open Go.ChangeShapes Go.WideShapes Go.ChangeAt Go.RowKit
set_option linter.unusedVariables false
set_option linter.unusedSimpArgs false
theorem MemAt.over {w0 : World} {mb S : Nat} {a b : Shp} {N cb : Nat} {size : Int} {th : Nat → Bool} {vr_ : Nat → Int} {W : Nat → Nat → Value} {th2 : Nat → Bool} {vr2 : Nat → Int} {W2 : Nat → Nat → Int} {hits : Int} {v : Value} {E : List EW} {w w1 : World} (h : (MemAt w0 w mb S a b N cb size th vr_ W th2 vr2 W2 hits v E)) (h1 : Below w1.heap.size w1 w0) : MemAt w1 w mb S a b N cb size th vr_ W th2 vr2 W2 hits v E :=
  ⟨⟨h1.trans (h.sv.bel.mono h1.size), Nat.le_trans h1.size h.sv.wb, h.sv.st⟩, h.lo, Nat.le_trans h1.size h.n0, h.nN, h.m0, h.m1, h.ml, h.mn, h.mo, h.ca, h.ok⟩
/-- What is written below a memory leaves it; it is one over an elder start. -/
theorem MemAt.low5 {w0 : World} {mb S : Nat} {a b : Shp} {N cb : Nat} {size : Int} {th : Nat → Bool} {vr_ : Nat → Int} {W : Nat → Nat → Value} {th2 : Nat → Bool} {vr2 : Nat → Int} {W2 : Nat → Nat → Int} {hits : Int} {v : Value} {E : List EW} {w w1 : World} (h : (MemAt w0 w mb S a b N cb size th vr_ W th2 vr2 W2 hits v E)) (h1 : Below w1.heap.size w1 w0) {g : Nat} (hg0 : w1.heap.size ≤ g) (hg : g < a.b) (hgN : g < N) (z0 z1 z2 z3 z4 : Int) : MemAt w1 (((((w.setCell ⟨g, 0, none⟩ (.int .i64 z0)).setCell ⟨g, 1, none⟩ (.int .i64 z1)).setCell ⟨g, 2, none⟩ (.int .i64 z2)).setCell ⟨g, 3, none⟩ (.int .i64 z3)).setCell ⟨g, 4, none⟩ (.int .u32 z4)) mb S a b N cb size th vr_ W th2 vr2 W2 hits v E := by
  have hk : ∀ k, k ≠ g → (((((w.setCell ⟨g, 0, none⟩ (.int .i64 z0)).setCell ⟨g, 1, none⟩ (.int .i64 z1)).setCell ⟨g, 2, none⟩ (.int .i64 z2)).setCell ⟨g, 3, none⟩ (.int .i64 z3)).setCell ⟨g, 4, none⟩ (.int .u32 z4)).heap[k]? = w.heap[k]? := fun k hk => by
    rw [set_heap _ _ _ _ _ hk, set_heap _ _ _ _ _ hk, set_heap _ _ _ _ _ hk, set_heap _ _ _ _ _ hk, set_heap _ _ _ _ _ hk]
  have hz : (((((w.setCell ⟨g, 0, none⟩ (.int .i64 z0)).setCell ⟨g, 1, none⟩ (.int .i64 z1)).setCell ⟨g, 2, none⟩ (.int .i64 z2)).setCell ⟨g, 3, none⟩ (.int .i64 z3)).setCell ⟨g, 4, none⟩ (.int .u32 z4)).heap.size = w.heap.size := by simp
  have e := hk mb (by have := h.mn; omega)
  have hb := below_set5 (h1.trans (h.sv.bel.mono h1.size)) hg0 z0 z1 z2 z3 z4
  exact ⟨⟨hb, by omega, h.sv.st.low5 g hg z0 z1 z2 z3 z4⟩, h.lo, by omega, by rw [hz]; exact h.nN, (World.cell?_of_block (a := ⟨mb, 0, none⟩) e).trans h.m0, (World.cell?_of_block (a := ⟨mb, 1, none⟩) e).trans h.m1, by rw [hz]; exact h.ml, h.mn, h.mo, h.ca.same (Nat.le_of_eq hz.symm) (fun k hkN _ => hk k (by omega)), h.ok⟩
theorem way_r0 {a b : Shp} {th : Nat → Bool} {vr_ : Nat → Int} {W : Nat → Nat → Value} {th2 : Nat → Bool} {vr2 : Nat → Int} {k0 k1 k2 k3 k4 below addr pg at_ f : Int} {ro r r' : Bool} {ids : List Int} (h : Way a b th vr_ W th2 vr2 k0 k1 k2 k3 k4 below addr ro ids pg at_ r f) (e : r = r') : Way a b th vr_ W th2 vr2 k0 k1 k2 k3 k4 below addr ro ids pg at_ r' f := e ▸ h
theorem KeyC.keep {w w' : World} {kb N cb : Nat} {v : Value} {k0 k1 k2 k3 k4 : Int} (h : KeyC w kb k0 k1 k2 k3 k4) (hk : KeepM w w' N cb v) (hN : N ≤ kb) (ho : OutC cb v kb) : KeyC w' kb k0 k1 k2 k3 k4 := h.same' hk.1 (hk.2 kb hN h.lt ho.1 ho.2)
theorem updA_hit (W : Nat → Nat → Int) (i x : Nat) (u : Int) : updA W i x u i x = u := by simp [updA]
end Go.Proofs.YtncopdhhchmpeaaGreatDoor
namespace Go.Proofs.YtncopdhhchmpeaaGreatDoor
open Go.ChangeShapes Go.WideShapes Go.ChangeAt Go.RowKit
set_option linter.unusedVariables false
set_option linter.unusedSimpArgs false
theorem CacheAt.cleared {w : World} {N cb : Nat} {size hits : Int} {v : Value} {E : List EW} (h : CacheAt w N cb size hits v E) : CacheAt (w.setCell ⟨cb, 2, none⟩ (.slice none 0 0)) N cb size hits (.slice none 0 0) [] := by
  refine ⟨h.nb, by simpa using h.cl, ?_, ?_, World.cell?_setCell_same _ _ _ h.c2, fun j => by simpa using h.fr j, World.ownsRow_nil _ _ _ _, by simp [Value.ownBlock], fun e he => by cases he⟩
  · rw [World.cell?_setCell_other _ _ _ _ (by simp)]; exact h.c0
  · rw [World.cell?_setCell_other _ _ _ _ (by simp)]; exact h.c1
theorem mgiven_ok (mb cb : Nat) (v : Value) (w : World) (m1 : w.cell? ⟨mb, 1, none⟩ = some (.pointer (some ⟨cb, 0, none⟩))) (c2 : w.cell? ⟨cb, 2, none⟩ = some v) (fr : w.frozen? ⟨cb, 2, none⟩ = false) :
    Calls Tryz.prog 130 #[.pointer (some ⟨mb, 0, none⟩), .nilIface] w fun e w' => e = .returned .nilIface ∧ w' = w.setCell ⟨cb, 2, none⟩ (.slice none 0 0) := by
  have hcl : Calls Tryz.prog 169 #[.pointer (some ⟨cb, 0, none⟩)] w fun e w' => e = .returned (.tuple #[]) ∧ w' = w.setCell ⟨cb, 2, none⟩ (.slice none 0 0) := by
    go_enter Tryz.func169, Tryz.ntmps169
    go_wp2_with fail
    go_end0
    exact ⟨rfl, rfl⟩
  have HCl := Lib.hid hcl
  clear hcl c2 fr
  go_enter Tryz.func130, Tryz.ntmps130
  go_wp2_with (first
    | (go_at_call 169; (with_reducible refine (HCl.out).mono ?_); rintro e w1 ⟨rfl, hw⟩; have HW := Lib.hid hw; clear hw))
  go_ret
  exact ⟨rfl, HW.out⟩
section
variable {w w1 : World}
theorem MemAt.nodeC {w0 : World} {mb S : Nat} {a b : Shp} {N cb : Nat} {size : Int} {th : Nat → Bool} {vr_ : Nat → Int} {W : Nat → Nat → Value} {th2 : Nat → Bool} {vr2 : Nat → Int} {W2 : Nat → Nat → Int} {hits : Int} {v : Value} {E : List EW} (h : (MemAt w0 w mb S a b N cb size th vr_ W th2 vr2 W2 hits v E)) {th' : Nat → Bool} {vr' : Nat → Int} {W' : Nat → Nat → Value} (hN : NdAt w1 a.b a.P a.p a.B a.G a.n a.c th' vr' W') (hb : PBelow w w1 a.B a.G) : MemAt w0 (w1.setCell ⟨cb, 2, none⟩ (.slice none 0 0)) mb S a b N cb size th' vr' W' th2 vr2 W2 hits (.slice none 0 0) [] ∧ KeepM w (w1.setCell ⟨cb, 2, none⟩ (.slice none 0 0)) N cb v := by
  have hl := h.lo.n
  have e := hb.2.2.2.2 mb h.ml (by have := h.mn; omega) (by have := h.mn; omega)
  have e2 := (set_heap w1 cb mb 2 (.slice none 0 0) h.mo.1).trans e
  have hs := hb.2.2.2.1
  exact ⟨⟨(h.sv.node hN hb).put1 h.lo cb 2 h.ca.nb h.n0 _, h.lo, h.n0, by have := h.nN; simp; omega, (World.cell?_of_block (a := ⟨mb, 0, none⟩) e2).trans h.m0, (World.cell?_of_block (a := ⟨mb, 1, none⟩) e2).trans h.m1, by have := h.ml; simp; omega, h.mn, ⟨h.mo.1, by simp [Value.ownBlock]⟩, (h.ca.same hs (fun k hk hks => hb.2.2.2.2 k hks (by omega) (by omega))).cleared, ways_nil⟩, ⟨by simpa using hs, fun k hkN hk hkc _ => by rw [set_heap _ _ _ _ _ hkc]; exact hb.2.2.2.2 k hk (by omega) (by omega)⟩⟩
theorem MemAt.pageC {w0 : World} {mb S : Nat} {a b : Shp} {N cb : Nat} {size : Int} {th : Nat → Bool} {vr_ : Nat → Int} {W : Nat → Nat → Value} {th2 : Nat → Bool} {vr2 : Nat → Int} {W2 : Nat → Nat → Int} {hits : Int} {v : Value} {E : List EW} (h : (MemAt w0 w mb S a b N cb size th vr_ W th2 vr2 W2 hits v E)) {th2' : Nat → Bool} {vr2' : Nat → Int} {W2' : Nat → Nat → Int} (hP : PgAt w1 b.b b.P b.p b.B b.G b.n b.c th2' vr2' W2') (hb : PBelow w w1 b.B b.G) : MemAt w0 (w1.setCell ⟨cb, 2, none⟩ (.slice none 0 0)) mb S a b N cb size th vr_ W th2' vr2' W2' hits (.slice none 0 0) [] ∧ KeepM w (w1.setCell ⟨cb, 2, none⟩ (.slice none 0 0)) N cb v := by
  have hl := h.lo.p
  have e := hb.2.2.2.2 mb h.ml (by have := h.mn; omega) (by have := h.mn; omega)
  have e2 := (set_heap w1 cb mb 2 (.slice none 0 0) h.mo.1).trans e
  have hs := hb.2.2.2.1
  exact ⟨⟨(h.sv.page hP hb).put1 h.lo cb 2 h.ca.nb h.n0 _, h.lo, h.n0, by have := h.nN; simp; omega, (World.cell?_of_block (a := ⟨mb, 0, none⟩) e2).trans h.m0, (World.cell?_of_block (a := ⟨mb, 1, none⟩) e2).trans h.m1, by have := h.ml; simp; omega, h.mn, ⟨h.mo.1, by simp [Value.ownBlock]⟩, (h.ca.same hs (fun k hk hks => hb.2.2.2.2 k hks (by omega) (by omega))).cleared, ways_nil⟩, ⟨by simpa using hs, fun k hkN hk hkc _ => by rw [set_heap _ _ _ _ _ hkc]; exact hb.2.2.2.2 k hk (by omega) (by omega)⟩⟩
end
set_option maxRecDepth 100000 in
theorem mgivenode_ok {w0 : World} {mb S : Nat} {a b : Shp} {N cb : Nat} {size : Int} {th : Nat → Bool} {vr_ : Nat → Int} {W : Nat → Nat → Value} {th2 : Nat → Bool} {vr2 : Nat → Int} {W2 : Nat → Nat → Int} {hits : Int} {v : Value} {E : List EW} (hn : Hid (0 < a.n)) (ht : Hid (th 0 = true)) (hv : Hid (vr_ 0 = 0)) (w : World) (h : (MemAt w0 w mb S a b N cb size th vr_ W th2 vr2 W2 hits v E)) :
    Calls Tryz.prog 108 #[.pointer (some ⟨mb, 0, none⟩), .int .i64 0] w fun e w' => e = .returned .nilIface ∧ MemAt w0 w' mb S a b N cb size (upd th 0 false) (upd vr_ 0 1) W th2 vr2 W2 hits (.slice none 0 0) [] ∧ KeepM w w' N cb v := by
  have H := Lib.hid h
  have m0 := h.m0
  have s0 := h.sv.st.s0
  have f0 := h.sv.st.nd.f0
  clear h
  go_enter Tryz.func108, Tryz.ntmps108
  go_wp2_with (first
    | (go_at_call 72; (with_reducible refine (agive_at 0 _ H.out.sv.st.nd.ar 0 (Lib.hid rfl) hn.out ht 0 1 hv (by decide) (by decide) (Lib.hid rfl)).mono ?_); rintro e w1 ⟨rfl, hA, hg⟩; have hb := PBelow.of (B := a.B) (G := a.G) hg (.inl rfl); have HF := Lib.hid (H.out.nodeC (H.out.sv.st.nd.turn hA hg) hb); have hmb := hb.2.2.2.2 mb H.out.ml (by have := H.out.mn; have := H.out.lo.n; omega) (by have := H.out.mn; have := H.out.lo.n; omega); have hcb := hb.2.2.2.2 cb H.out.ca.cl (by have := H.out.ca.nb; have := H.out.lo.n; omega) (by have := H.out.ca.nb; have := H.out.lo.n; omega); have HMB := Lib.hid hmb; have HCB := Lib.hid hcb; clear hA hg hb hmb hcb m0 s0 f0)
    | (go_at_call 130; (with_reducible refine (mgiven_ok mb cb v _ ((World.cell?_of_block (a := ⟨mb, 1, none⟩) HMB.out).trans H.out.m1) ((World.cell?_of_block (a := ⟨cb, 2, none⟩) HCB.out).trans H.out.ca.c2) ((World.frozen?_of_block (a := ⟨cb, 2, none⟩) HCB.out).trans (H.out.ca.fr 2))).mono ?_); rintro e w2 ⟨rfl, hw⟩; have HW := Lib.hid hw; clear hw))
  go_ret
  exact ⟨rfl, by rw [HW.out]; exact HF.out.1, by rw [HW.out]; exact HF.out.2⟩
set_option maxRecDepth 100000 in
theorem mgivepage_ok {w0 : World} {mb S : Nat} {a b : Shp} {N cb : Nat} {size : Int} {th : Nat → Bool} {vr_ : Nat → Int} {W : Nat → Nat → Value} {th2 : Nat → Bool} {vr2 : Nat → Int} {W2 : Nat → Nat → Int} {hits : Int} {v : Value} {E : List EW} (hn : Hid (0 < b.n)) (ht : Hid (th2 0 = true)) (hv : Hid (vr2 0 = 0)) (w : World) (h : (MemAt w0 w mb S a b N cb size th vr_ W th2 vr2 W2 hits v E)) :
    Calls Tryz.prog 109 #[.pointer (some ⟨mb, 0, none⟩), .int .i64 0] w fun e w' => e = .returned .nilIface ∧ MemAt w0 w' mb S a b N cb size th vr_ W (upd th2 0 false) (upd vr2 0 1) W2 hits (.slice none 0 0) [] ∧ KeepM w w' N cb v := by
  have H := Lib.hid h
  have m0 := h.m0
  have s0 := h.sv.st.s1
  have f0 := h.sv.st.pg.f0
  clear h
  go_enter Tryz.func109, Tryz.ntmps109
  go_wp2_with (first
    | (go_at_call 72; (with_reducible refine (agive_at 0 _ H.out.sv.st.pg.ar 0 (Lib.hid rfl) hn.out ht 0 1 hv (by decide) (by decide) (Lib.hid rfl)).mono ?_); rintro e w1 ⟨rfl, hA, hg⟩; have hb := PBelow.of (B := b.B) (G := b.G) hg (.inl rfl); have HF := Lib.hid (H.out.pageC (H.out.sv.st.pg.turn hA hg) hb); have hmb := hb.2.2.2.2 mb H.out.ml (by have := H.out.mn; have := H.out.lo.p; omega) (by have := H.out.mn; have := H.out.lo.p; omega); have hcb := hb.2.2.2.2 cb H.out.ca.cl (by have := H.out.ca.nb; have := H.out.lo.p; omega) (by have := H.out.ca.nb; have := H.out.lo.p; omega); have HMB := Lib.hid hmb; have HCB := Lib.hid hcb; clear hA hg hb hmb hcb m0 s0 f0)
    | (go_at_call 130; (with_reducible refine (mgiven_ok mb cb v _ ((World.cell?_of_block (a := ⟨mb, 1, none⟩) HMB.out).trans H.out.m1) ((World.cell?_of_block (a := ⟨cb, 2, none⟩) HCB.out).trans H.out.ca.c2) ((World.frozen?_of_block (a := ⟨cb, 2, none⟩) HCB.out).trans (H.out.ca.fr 2))).mono ?_); rintro e w2 ⟨rfl, hw⟩; have HW := Lib.hid hw; clear hw))
  go_ret
  exact ⟨rfl, by rw [HW.out]; exact HF.out.1, by rw [HW.out]; exact HF.out.2⟩
end Go.Proofs.YtncopdhhchmpeaaGreatDoor
