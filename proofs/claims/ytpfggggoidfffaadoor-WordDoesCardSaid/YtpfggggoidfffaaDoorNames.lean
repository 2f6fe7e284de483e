import Derived.Test.YtpfggggoidfffaaDoorDo
import Derived.Test.YtpfggggoidfffaaDoorOpen
namespace Go.Proofs.YtpfggggoidfffaaDoor
open Go.ChangeShapes Go.WideShapes Go.ChangeAt Go.RowKit
set_option linter.unusedVariables false

def nmL : List (List UInt8) := [[97, 100, 100], [115, 117, 98], [109, 117, 108], [100, 105, 118], [109, 111, 100], [97, 110, 100], [111, 114], [120, 111, 114], [115, 104, 108], [115, 104, 114], [108, 116], [101, 113]]
/-- The op's name, of no op: nothing. -/
def nmB (op : Int) : ByteArray := if 0 ≤ op ∧ op ≤ 11 then ⟨(nmL.getD op.toNat []).toArray⟩ else ⟨#[]⟩

def NamesAt (w : World) : Prop := ∀ i, i < 12 → w.cell? ⟨0, i, none⟩ = some (.string ⟨(nmL.getD i []).toArray⟩)
theorem NamesAt.below {B : Nat} {w w' : World} (h : NamesAt w) (hb : Below B w w') (hB : 0 < B) : NamesAt w' := fun i hi => (hb.cell (p := ⟨0, i, none⟩) hB).trans (h i hi)

theorem name_no (op : Int) (w : World) (h : op < 0 ∨ 11 < op) :
    Calls Tryd.prog 8 #[.int .i64 op] w fun e w' => e = .returned (.string ⟨#[]⟩) ∧ w = w' := by
  rcases h with h | h
  · go_enter Tryd.func8, Tryd.ntmps8
    go_wp2
    go_ret
    exact ⟨rfl, rfl⟩
  · have h1 : ¬ op < 0 := by omega
    have h2 : 12 ≤ op := by omega
    go_enter Tryd.func8, Tryd.ntmps8
    go_wp2
    go_ret
    exact ⟨rfl, rfl⟩
theorem name_yes (n : Nat) (w : World) (hn : n < 12) (s : ByteArray) (hc : w.cell? ⟨0, n, none⟩ = some (.string s)) :
    Calls Tryd.prog 8 #[.int .i64 n] w fun e w' => e = .returned (.string s) ∧ w = w' := by
  go_enter Tryd.func8, Tryd.ntmps8
  go_wp2
  go_ret
  exact ⟨rfl, rfl⟩
theorem name_any (op : Int) (w : World) (h : NamesAt w) :
    Calls Tryd.prog 8 #[.int .i64 op] w fun e w' => e = .returned (.string (nmB op)) ∧ w = w' := by
  by_cases ho : 0 ≤ op ∧ op ≤ 11
  · obtain ⟨n, rfl⟩ : ∃ n : Nat, op = (n : Int) := ⟨op.toNat, by omega⟩
    have e : nmB (n : Int) = ⟨(nmL.getD n []).toArray⟩ := by unfold nmB; rw [if_pos ho]; rfl
    rw [e]
    exact name_yes n w (by omega) _ (h n (by omega))
  · have e : nmB op = ⟨#[]⟩ := by unfold nmB; rw [if_neg ho]
    rw [e]
    exact name_no op w (by omega)

theorem opname_no (op : Int) (w : World) (h : op < 0 ∨ 11 < op) :
    Calls Tryd.prog 9 #[.int .i64 op] w fun e w' => e = .returned (.string ⟨#[]⟩) ∧ Below w.heap.size w w' := by
  rcases h with h | h
  · go_enter Tryd.func9, Tryd.ntmps9
    go_wp2
    go_ret
    exact ⟨rfl, (Below.refl _ _).alloc (Nat.le_refl _) _⟩
  · have h1 : ¬ op < 0 := by omega
    have h2 : 12 ≤ op := by omega
    go_enter Tryd.func9, Tryd.ntmps9
    go_wp2
    go_ret
    exact ⟨rfl, (Below.refl _ _).alloc (Nat.le_refl _) _⟩
set_option maxHeartbeats 2000000 in
theorem opname_yes (n : Nat) (w : World) (hn : n < 12) :
    Calls Tryd.prog 9 #[.int .i64 n] w fun e w' => e = .returned (.string ⟨(nmL.getD n []).toArray⟩) ∧ Below w.heap.size w w' := by
  have hh : n = 0 ∨ n = 1 ∨ n = 2 ∨ n = 3 ∨ n = 4 ∨ n = 5 ∨ n = 6 ∨ n = 7 ∨ n = 8 ∨ n = 9 ∨ n = 10 ∨ n = 11 := by omega
  clear hn
  rcases hh with rfl | rfl | rfl | rfl | rfl | rfl | rfl | rfl | rfl | rfl | rfl | rfl
  all_goals
    go_enter Tryd.func9, Tryd.ntmps9
    go_wp2
    go_ret
    exact ⟨rfl, (Below.refl _ _).alloc (Nat.le_refl _) _⟩
theorem opname_any (op : Int) (w : World) :
    Calls Tryd.prog 9 #[.int .i64 op] w fun e w' => e = .returned (.string (nmB op)) ∧ Below w.heap.size w w' := by
  by_cases ho : 0 ≤ op ∧ op ≤ 11
  · obtain ⟨n, rfl⟩ : ∃ n : Nat, op = (n : Int) := ⟨op.toNat, by omega⟩
    have e : nmB (n : Int) = ⟨(nmL.getD n []).toArray⟩ := by unfold nmB; rw [if_pos ho]; rfl
    rw [e]
    exact opname_yes n w (by omega)
  · have e : nmB op = ⟨#[]⟩ := by unfold nmB; rw [if_neg ho]
    rw [e]
    exact opname_no op w (by omega)
end Go.Proofs.YtpfggggoidfffaaDoor
