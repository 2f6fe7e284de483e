/-
  Chapter 15: first.
-/
import Derived.Test.YtaekccgcnlepaaaGreatDoorAo
namespace Go.Proofs.YtaekccgcnlepaaaGreatDoor
open Go.ChangeShapes Go.WideShapes Go.ChangeAt Go.RowKit Go.Maps
set_option linter.unusedVariables false
set_option linter.unusedSimpArgs false
def fT : List ByteArray := [⟨#[97, 58]⟩, ⟨#[106, 109, 112, 32, 97]⟩]
theorem fT_text : textV fT = ([67108864], none) := by decide +kernel
theorem two_sz (a b : ByteArray) (ha : a.size ≤ 900) (hb : b.size ≤ 900) (i : Nat) : ([a, b].getD i ⟨#[]⟩).size ≤ 900 := by
  match i with
  | 0 => exact ha
  | 1 => exact hb
  | n + 2 => exact Nat.zero_le _
theorem ls_two (w : World) (a b : ByteArray) (t : TypeId) : LsAt (w.alloc (.cells #[.string a, .string b] t)) (some ⟨w.heap.size, 0, none⟩) [a, b] := fun i hi => by
  refine ⟨_, rfl, by simp, ?_⟩
  match i, hi with
  | 0, _ | 1, _ => simp [Addr.add, List.getD]
set_option maxRecDepth 100000 in
theorem afirst_is {A : Nat → Addr} (w : World) (hA : AsmAt A w) : Calls Tryz.prog 4 #[] w fun e w' => e = .returned (.bool true) ∧ Below w.heap.size w w' := by
  have hb0 : Below w.heap.size w (w.alloc (.cells #[.string ⟨#[97, 58]⟩, .string ⟨#[106, 109, 112, 32, 97]⟩] 9)) := (Below.refl _ _).alloc (Nat.le_refl _) _
  have HT := Lib.hid (text_is (some ⟨w.heap.size, 0, none⟩) 2 2 fT (Lib.hid rfl) (by decide) (Lib.hid (two_sz _ _ (by decide) (by decide))) _ (hA.below hb0) (ls_two w _ _ _))
  have HB0 := Lib.hid hb0
  rw [fT_text] at HT
  clear hA hb0
  go_enter Tryz.func4, Tryz.ntmps4
  go_wp2_with (first
    | (go_at_call 6; (refine HT.out.mono ?_); rintro e w1 ⟨⟨ad, n, cp, ve, rfl, hn, -, hve⟩, hb⟩; obtain rfl : ve = .nilIface := (by rcases hve with h | ⟨_, _, _, h, _⟩; exact h.2; cases h); obtain rfl : n = 1 := hn.symm; have HB := Lib.hid (HB0.out.trans (hb.mono HB0.out.size)); clear hn hve hb))
  go_ret
  exact ⟨rfl, HB.out⟩
end Go.Proofs.YtaekccgcnlepaaaGreatDoor
