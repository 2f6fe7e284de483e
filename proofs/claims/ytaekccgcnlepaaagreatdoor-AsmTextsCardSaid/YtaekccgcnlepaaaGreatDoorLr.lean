/-
  A row of lines that is ours.
-/
import Derived.Test.YtaekccgcnlepaaaGreatDoorAf
namespace Go.Proofs.YtaekccgcnlepaaaGreatDoor
open Go.ChangeShapes Go.WideShapes Go.ChangeAt Go.RowKit Go.Maps
set_option linter.unusedVariables false
set_option linter.unusedSimpArgs false
/-- A row of lines that is ours. -/
structure LR (W0 wr : World) (b0 : Nat) (v : Value) (l : List ByteArray) (m : Nat) : Prop where
  row : wr.ownsRow b0 9 1 v m (l.map Value.string)
  bel : Below W0.heap.size W0 wr
  len : l.length = m
  lo : W0.heap.size ≤ b0
theorem LR.below {W0 wr w' : World} {b0 : Nat} {v : Value} {l : List ByteArray} {m : Nat} (h : LR W0 wr b0 v l m) (hb : Below wr.heap.size wr w') : LR W0 w' b0 v l m := ⟨own_keep h.row hb, h.bel.trans (hb.mono h.bel.size), h.len, h.lo⟩
theorem LR.more {W0 wr w3 : World} {b0 : Nat} {v v2 : Value} {l l2 : List ByteArray} {m m2 : Nat} {ob : Obj} (h : LR W0 wr b0 v l m) (hl : l2.length = m2) (hrow : w3.ownsRow b0 9 1 v2 (m + m2) (l.map Value.string ++ l2.map Value.string)) (hg : (wr.alloc ob).grownBy w3 v.ownBlock) : LR W0 w3 b0 v2 (l ++ l2) (m + m2) :=
  ⟨by rw [List.map_append]; exact hrow, (h.bel.alloc h.bel.size ob).grown hg (by have := h.bel.size; simp; omega) (fun g hg => Nat.le_trans h.lo (h.row.lt g hg).1), by rw [List.length_append, h.len, hl], h.lo⟩
theorem LR.ls {W0 wr : World} {b0 : Nat} {ad : Option Addr} {cp : Nat} {l : List ByteArray} {m : Nat} (h : LR W0 wr b0 (.slice ad m cp) l m) : LsAt wr ad l := by
  intro i hi
  rcases h.row.2 with ⟨_, h0⟩ | ⟨g, cap, cur, hv, hB, hg, rest⟩
  · have := h.len; omega
  · obtain rfl : ad = some ⟨g, 0, none⟩ := by simp at hv; exact hv.1
    refine ⟨_, rfl, lt_of_block hg, ?_⟩
    have := h.row.cellAt i (by have := h.len; omega)
    rw [show (Addr.add ⟨g, 0, none⟩ i) = ⟨g, i, none⟩ by (simp [Addr.add]; exact fun h => h.symm), this]
    simp [List.getD, hi]
theorem LR.set {W0 wr : World} {b0 g cp : Nat} {l : List ByteArray} {m : Nat} (h : LR W0 wr b0 (.slice (some ⟨g, 0, none⟩) m cp) l m) (i : Nat) (s : ByteArray) : LR W0 (wr.setCell ⟨g, i, none⟩ (.string s)) b0 (.slice (some ⟨g, 0, none⟩) m cp) (l.set i s) m := by
  have hs := h.row.stored i (.string s)
  refine ⟨by rw [List.map_set]; exact hs.1, h.bel.setCell (Nat.le_trans h.lo (h.row.lt g rfl).1) _, by rw [List.length_set]; exact h.len, h.lo⟩
theorem getD_sz (l : List ByteArray) (h : ∀ s, s ∈ l → s.size ≤ 900) (i : Nat) : (l.getD i ⟨#[]⟩).size ≤ 900 := by
  by_cases hi : i < l.length
  · exact h _ (by simp [List.getD, hi])
  · rw [List.getD_eq_getElem?_getD, List.getElem?_eq_none (by omega)]
    exact Nat.zero_le _
theorem strs_one (l : List ByteArray) : ∀ u ∈ l.map Value.string, u.oneCell' = true := by
  intro u hu
  obtain ⟨s, _, rfl⟩ := List.mem_map.1 hu
  rfl
theorem own_some {w : World} {B E s n c : Nat} {ad : Option Addr} {xs : List Value} (h : w.ownsRow B E s (.slice ad n c) n xs) (hn : 0 < n) : ∃ g, ad = some ⟨g, 0, none⟩ := by
  rcases h.2 with ⟨_, h0⟩ | ⟨g, cap, cur, hv, _⟩
  · omega
  · exact ⟨g, by simp at hv; exact hv.1⟩
end Go.Proofs.YtaekccgcnlepaaaGreatDoor
