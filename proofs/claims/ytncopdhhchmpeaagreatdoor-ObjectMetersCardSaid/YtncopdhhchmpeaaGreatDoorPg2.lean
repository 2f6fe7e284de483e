/-
  package page: New, has, Read, Make.
-/
import Derived.Test.YtncopdhhchmpeaaGreatDoorPg
namespace Go.Proofs.YtncopdhhchmpeaaGreatDoor
open Go.ChangeShapes Go.WideShapes Go.ChangeAt Go.RowKit
set_option linter.unusedVariables false
theorem flat_made (n : Nat) : (madeCells (Array.replicate 32 (Value.int .u32 0)) (n * 32)).toList = flat (fun _ _ => 0) n := by
  apply List.ext_getElem?
  intro j
  by_cases hj : j < n * 32
  · have h : j % 32 < 32 := Nat.mod_lt _ (by decide)
    simp [madeCells, flat, hj, h]
  · rw [List.getElem?_eq_none (by simp [size_madeCells]; omega), List.getElem?_eq_none (by rw [flat_len]; omega)]
set_option maxRecDepth 100000 in
theorem pnew_ok (x : Int) (n : Nat) (hx : Hid (x = n)) (h1 : 1 ≤ n) (h2 : n ≤ 256) (w : World) :
    Calls Tryz.prog 95 #[.int .i64 x] w fun e w' => ∃ P p B G, e = .returned (.tuple #[.pointer (some ⟨P, 0, none⟩), .nilIface]) ∧ PgAt w' w.heap.size P p B G n n (fun _ => false) (fun _ => 0) (fun _ _ => 0) ∧ Below w.heap.size w w' := by
  rw [hx.out]
  obtain ⟨i0, hi, hz0, hz1, hz2⟩ := info_parts infoSheet
  have HI := Lib.hid (⟨hi, hz0, hz1, hz2⟩ : Tryz.prog.info? 179 = some i0 ∧ i0.zero = some (.agg (Array.replicate 32 (.int .u32 0))) ∧ i0.size = 32 ∧ i0.bytes = 128)
  clear hi hz0 hz1 hz2 hx
  go_enter Tryz.func95, Tryz.ntmps95
  go_wp2_with (first
    | (go_at_call 127; (with_reducible refine (anew_at _ n (Lib.hid rfl) h1 h2 _).mono ?_); rintro e w1 ⟨p, B, rfl, hA, hb⟩; have HA := Lib.hid hA; have HB := Lib.hid hb; clear hA hb)
    | (at_make; refine wpList_make_full _ rfl _ _ 149 rfl w.heap.size 179 i0 (.agg (Array.replicate 32 (.int .u32 0))) 32 Tryz.underlying149 HI.out.1 HI.out.2.1 HI.out.2.2.1 .i64 .i64 _ _ n rfl rfl rfl rfl ?b2 ?b3 ?b4 ?_))
  case b2 => rw [HI.out.2.2.2]; omega
  case b3 => unfold maxLen; omega
  case b4 => exact HB.out.size
  intro w2 hown hgrow
  rw [flat_made] at hown
  have HO := Lib.hid hown
  have HG := Lib.hid (show Below w1.heap.size w1 w2 from (Below.refl _ _).grown hgrow (Nat.le_refl _) (fun k hk => by cases hk))
  clear hown hgrow
  go_wp2_with fail
  go_ret2
  have hp := HA.out.pl
  have hB := HA.out.lt
  have hG := (HO.out.lt w1.heap.size rfl)
  have hs := HG.out.size
  have hs1 := HB.out.size
  have h2' : ∀ o, Below w2.heap.size w2 (w2.alloc o) := fun o => (Below.refl _ _).alloc (Nat.le_refl _) o
  exact ⟨_, p, B, w1.heap.size, rfl, ⟨by simp, by omega, by simp, by simp, (HA.out.below HG.out).below (h2' _), HO.out.alloc _, by omega, by omega, by omega, by omega⟩, (HB.out.trans (HG.out.mono HB.out.size)).alloc (Nat.le_trans HB.out.size HG.out.size) _⟩
theorem phas_is {base P p B G n c : Nat} {th : Nat → Bool} {vr : Nat → Int} {W : Nat → Nat → Int} (k at_ : Nat) (hk : k < n) (ha : at_ < 32) (ht : Hid (th k = true)) (w : World) (h : PgAt w base P p B G n c th vr W) :
    Calls Tryz.prog 203 #[.pointer (some ⟨P, 0, none⟩), .int .i64 k, .int .i64 at_] w fun e w' => e = .returned (.bool true) ∧ w = w' := by
  have H := Lib.hid h
  have f0 := h.f0
  have a0 : (0 : Int) ≤ at_ := by omega
  have a1 : (at_ : Int) < 32 := by omega
  clear h
  go_enter Tryz.func203, Tryz.ntmps203
  go_wp2_with (first | (go_at_call 63; (with_reducible refine (athere_in k hk true ht _ H.out.ar).mono ?_); rintro e w1 ⟨rfl, rfl⟩))
  go_ret
  exact ⟨rfl, rfl⟩
theorem pread_is {base P p B G n c : Nat} {th : Nat → Bool} {vr : Nat → Int} {W : Nat → Nat → Int} (k at_ : Nat) (hk : k < n) (ha : at_ < 32) (ht : Hid (th k = true)) (x : Int) (hx : Hid (W k at_ = x)) (w : World) (h : PgAt w base P p B G n c th vr W) :
    Calls Tryz.prog 178 #[.pointer (some ⟨P, 0, none⟩), .int .i64 k, .int .i64 at_] w fun e w' => e = .returned (.tuple #[.int .u32 x, .bool true]) ∧ w = w' := by
  have H := Lib.hid h
  have f1 := h.f1
  have c1 := h.word k at_ hk ha
  rw [hx.out] at c1
  have a0 : (0 : Int) ≤ at_ := by omega
  have a1 : (at_ : Int) < 32 := by omega
  have k0 : (0 : Int) ≤ k := by omega
  have k1 : (k : Int) < n := by omega
  clear h
  go_enter Tryz.func178, Tryz.ntmps178
  go_wp2_with (first | (go_at_call 203; (with_reducible refine (phas_is k at_ hk ha ht _ H.out).mono ?_); rintro e w1 ⟨rfl, rfl⟩))
  go_ret2
  exact ⟨rfl, rfl⟩
/-- Words in a row, apart from the pages. -/
structure SrcU (w : World) (a : Option Addr) (xs : List Int) (B G : Nat) : Prop where
  src : ∀ j, j < xs.length → ∃ ad, a = some ad ∧ ad.block < w.heap.size ∧ ad.block ≠ B ∧ ad.block ≠ G ∧ w.cell? (ad.add j) = some (.int .u32 (xs.getD j 0))
theorem SrcU.kept {w w' : World} {a : Option Addr} {xs : List Int} {B G g : Nat} (h : SrcU w a xs B G) (hg : w.grownBy w' (some g)) (hB : g = B ∨ g = G) : SrcU w' a xs B G := ⟨fun j hj => by
  obtain ⟨ad, h1, h2, h3, h4, h5⟩ := h.src j hj
  refine ⟨ad, h1, Nat.lt_of_lt_of_le h2 hg.size, h3, h4, (World.cell?_of_block (a := ad.add j) ?_).trans h5⟩
  rw [add_block']
  exact hg.block _ h2 (fun e => by injection e with e; rcases hB with rfl | rfl; exact h3 e; exact h4 e)⟩
/-- What a page of these words is. -/
def fresh (W : Nat → Nat → Int) (i : Nat) (xs : List Int) : Nat → Nat → Int := updW (updW W i (List.replicate 32 0)) i xs
def PBelow (w w' : World) (B G : Nat) : Prop := w'.os = w.os ∧ w'.tape = w.tape ∧ w'.output = w.output ∧ w.heap.size ≤ w'.heap.size ∧ ∀ k, k < w.heap.size → k ≠ B → k ≠ G → w'.heap[k]? = w.heap[k]?
theorem PBelow.of {w w' : World} {B G g : Nat} (h : w.grownBy w' (some g)) (hB : g = B ∨ g = G) : PBelow w w' B G := ⟨h.os, h.tape, h.output, h.size, fun k hk h1 h2 => h.block k hk (fun e => by injection e with e; rcases hB with rfl | rfl; exact h1 e; exact h2 e)⟩
theorem PBelow.of_below {w w' : World} {B G : Nat} (h : Below w.heap.size w w') : PBelow w w' B G := ⟨h.os, h.tape, h.output, h.size, fun k hk _ _ => h.block k hk⟩
theorem PBelow.trans {w w' w'' : World} {B G : Nat} (h : PBelow w w' B G) (h2 : PBelow w' w'' B G) : PBelow w w'' B G :=
  ⟨h2.1.trans h.1, h2.2.1.trans h.2.1, h2.2.2.1.trans h.2.2.1, Nat.le_trans h.2.2.2.1 h2.2.2.2.1, fun k hk h3 h4 => (h2.2.2.2.2 k (Nat.lt_of_lt_of_le hk h.2.2.2.1) h3 h4).trans (h.2.2.2.2 k hk h3 h4)⟩
theorem PBelow.below {w w' : World} {B G b : Nat} (h : PBelow w w' B G) (hB : b ≤ B) (hG : b ≤ G) (hb : b ≤ w.heap.size) : Below b w w' := ⟨h.1, h.2.1, h.2.2.1, h.2.2.2.1, fun k hk => h.2.2.2.2 k (by omega) (by omega) (by omega)⟩
set_option maxRecDepth 100000 in
set_option maxHeartbeats 1000000 in
theorem pmake_ok {base P p B G n c : Nat} {th : Nat → Bool} {vr : Nat → Int} {W : Nat → Nat → Int} (a : Option Addr) (m c2 : Nat) (xs : List Int) (hm : Hid (xs.length = m)) (hx : m ≤ 32) (j : Nat) (hj : j < n) (hyes : Hid (freeB th vr j = true)) (hno : Hid (∀ i, i < j → freeB th vr i = false)) (v : Int) (hv : Hid (vr j = v)) (w : World) (h : PgAt w base P p B G n c th vr W) (hs : SrcU w a xs B G) :
    Calls Tryz.prog 61 #[.pointer (some ⟨P, 0, none⟩), .slice a m c2] w fun e w' => e = .returned (.tuple #[.int .i64 j, .int .i64 v, .nilIface]) ∧ PgAt w' base P p B G n c (upd th j true) vr (fresh W j xs) ∧ PBelow w w' B G := by
  have H := Lib.hid h
  have HS := Lib.hid hs
  have f0 := h.f0
  have hn := h.ar.le
  have d0 : decide ((32 : Int) < (m : Int)) = false := by simp; omega
  have k0 : (0 : Int) ≤ j := by omega
  have k1 : (j : Int) < n := by omega
  clear h hs
  go_enter Tryz.func61, Tryz.ntmps61
  go_wp2_with (first
    | (go_at_call 65; (with_reducible refine (atake_ok _ H.out.ar j hj hyes hno v hv).mono ?_); rintro e w1 ⟨rfl, hA, hg⟩; have H1 := Lib.hid (H.out.turn hA hg); have HS1 := Lib.hid (HS.out.kept hg (.inl rfl)); have HB1 := Lib.hid (PBelow.of (G := G) hg (.inl rfl)); have f1 := H1.out.f1; obtain ⟨w2, hcl, hP2, hg2⟩ := H1.out.clear j hj; have H2 := Lib.hid hP2; have HS2 := Lib.hid (HS1.out.kept hg2 (.inr rfl)); have HB2 := Lib.hid (HB1.out.trans (PBelow.of hg2 (.inr rfl))); have f2 := H2.out.f1; obtain ⟨w3, hcp, hP3, hg3⟩ := H2.out.copy j hj a m c2 xs hm.out hx (fun q hq => by obtain ⟨ad, e1, _, _, _, e2⟩ := HS2.out.src q (by rw [hm.out]; exact hq); exact ⟨ad, e1, e2⟩); have H3 := Lib.hid hP3; have HB3 := Lib.hid (HB2.out.trans (PBelow.of hg3 (.inr rfl))); clear hA hg hP2 hg2 hP3 hg3 f0))
  go_ret3
  exact ⟨rfl, H3.out, HB3.out⟩
set_option maxRecDepth 100000 in
theorem pmake_full {base P p B G n c : Nat} {th : Nat → Bool} {vr : Nat → Int} {W : Nat → Nat → Int} (w : World) (h : PgAt w base P p B G n c th vr W) (hno : Hid (∀ i, i < n → freeB th vr i = false)) (v : Addr) (tp : TypeId) (hE : w.cell? ⟨5, 0, none⟩ = some (.iface tp (.pointer (some v)))) (hl : 5 < w.heap.size) :
    Calls Tryz.prog 61 #[.pointer (some ⟨P, 0, none⟩), .slice none 0 0] w fun e w' => e = .returned (.tuple #[.int .i64 0, .int .i64 0, .iface tp (.pointer (some v))]) ∧ Below w.heap.size w w' := by
  have H := Lib.hid h
  have HE := Lib.hid hE
  have f0 := h.f0
  clear h hE
  go_enter Tryz.func61, Tryz.ntmps61
  go_wp2_with (first
    | (go_at_call 65; (with_reducible refine (atake_full _ H.out.ar hno _ HE.out hl).mono ?_); rintro e w1 ⟨rfl, hb⟩; have HB := Lib.hid hb; clear hb))
  go_ret3
  exact ⟨rfl, HB.out⟩
end Go.Proofs.YtncopdhhchmpeaaGreatDoor
