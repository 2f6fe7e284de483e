/-
  package page: Write, Words.
-/
import Derived.Test.YtjkbfhojjjkgnaaDoorPgF
import Derived.Maps.AppendAt
namespace Go.Proofs.YtjkbfhojjjkgnaaDoor
open Go.ChangeShapes Go.WideShapes Go.ChangeAt Go.RowKit
set_option linter.unusedVariables false
theorem infoU : (Tryd.prog.info? 22).map (fun i => (i.zero, i.size, i.bytes)) = some (some (.int .u32 0), 1, 4) := by kernel_rfl
/-- One word anew. -/
def updA (W : Nat → Nat → Int) (i j : Nat) (x : Int) : Nat → Nat → Int := fun a b => if a = i ∧ b = j then x else W a b
theorem flat_set (W : Nat → Nat → Int) (n i j : Nat) (x : Int) (hi : i < n) (hj : j < 32) : (flat W n).set (i * 32 + j) (.int .u32 x) = flat (updA W i j x) n := by
  apply List.ext_getElem?
  intro q
  by_cases hq : q < n * 32
  · by_cases e : q = i * 32 + j
    · subst e
      rw [List.getElem?_set_self (by rw [flat_len]; exact hq), flat_at _ n i j hi hj]
      simp [updA]
    · rw [List.getElem?_set_ne (by omega)]
      have : ¬ (q / 32 = i ∧ q % 32 = j) := by omega
      simp only [flat, List.getElem?_map, List.getElem?_range hq, Option.map_some, updA, if_neg this]
  · rw [List.getElem?_eq_none (by rw [List.length_set, flat_len]; omega), List.getElem?_eq_none (by rw [flat_len]; omega)]
section
variable {w w' : World} {base P p B G n c : Nat} {th : Nat → Bool} {vr : Nat → Int} {W : Nat → Nat → Int}
theorem PgAt.put (h : PgAt w base P p B G n c th vr W) (i j : Nat) (hi : i < n) (hj : j < 32) (x : Int) : PgAt (w.setCell ⟨G, i * 32 + j, none⟩ (.int .u32 x)) base P p B G n c th vr (updA W i j x) ∧ PBelow w (w.setCell ⟨G, i * 32 + j, none⟩ (.int .u32 x)) B G := by
  have hs := h.row.stored (i * 32 + j) (.int .u32 x)
  rw [flat_set W n i j x hi hj] at hs
  exact ⟨⟨Nat.lt_of_lt_of_le h.pl hs.2.size, h.pb, (World.cell?_of_block (a := ⟨P, 0, none⟩) (hs.2.block P h.pl (fun e => h.n2 (by injection e)))).trans h.f0, (World.cell?_of_block (a := ⟨P, 1, none⟩) (hs.2.block P h.pl (fun e => h.n2 (by injection e)))).trans h.f1, h.ar.kept hs.2 (Ne.symm h.n4) (Ne.symm h.n3), hs.1, h.n1, h.n2, h.n3, h.n4⟩, PBelow.of hs.2 (.inr rfl)⟩
theorem PgAt.kept {F : Nat} (h : PgAt w base P p B G n c th vr W) (hg : w.grownBy w' (some F)) (h1 : F ≠ P) (h2 : F ≠ p) (h3 : F ≠ B) (h4 : F ≠ G) : PgAt w' base P p B G n c th vr W :=
  ⟨Nat.lt_of_lt_of_le h.pl hg.size, h.pb, (World.cell?_of_block (a := ⟨P, 0, none⟩) (hg.block P h.pl (fun e => h1 (by injection e with e; exact e.symm)))).trans h.f0, (World.cell?_of_block (a := ⟨P, 1, none⟩) (hg.block P h.pl (fun e => h1 (by injection e with e; exact e.symm)))).trans h.f1, h.ar.kept hg (Ne.symm h2) (Ne.symm h3), h.row.kept hg (.inr (fun e => h4 (by simpa [Value.ownBlock] using e.symm))), h.n1, h.n2, h.n3, h.n4⟩
end
theorem pwrite_is {base P p B G n c : Nat} {th : Nat → Bool} {vr : Nat → Int} {W : Nat → Nat → Int} (k at_ : Nat) (hk : k < n) (ha : at_ < 32) (ht : Hid (th k = true)) (x : Int) (w : World) (h : PgAt w base P p B G n c th vr W) :
    Calls Tryd.prog 97 #[.pointer (some ⟨P, 0, none⟩), .int .i64 k, .int .i64 at_, .int .u32 x] w fun e w' => e = .returned (.bool true) ∧ PgAt w' base P p B G n c th vr (updA W k at_ x) ∧ PBelow w w' B G := by
  have H := Lib.hid h
  have H2 := Lib.hid (h.put k at_ hk ha x)
  have f1 := h.f1
  have c1 := h.word k at_ hk ha
  have z1 := h.row.frozenAt (k * 32 + at_)
  have a0 : (0 : Int) ≤ at_ := by omega
  have a1 : (at_ : Int) < 32 := by omega
  have k0 : (0 : Int) ≤ k := by omega
  have k1 : (k : Int) < n := by omega
  clear h
  go_enter Tryd.func97, Tryd.ntmps97
  go_wp2_with (first | (go_at_call 45; (with_reducible refine (phas_is k at_ hk ha ht _ H.out).mono ?_); rintro e w1 ⟨rfl, rfl⟩))
  go_ret
  exact ⟨rfl, H2.out⟩
end Go.Proofs.YtjkbfhojjjkgnaaDoor
