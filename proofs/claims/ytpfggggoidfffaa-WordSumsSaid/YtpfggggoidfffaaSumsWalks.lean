import Derived.Test.YtpfggggoidfffaaSums
import Derived.Test.YtpfggggoidfffaaOpen
namespace Go.Proofs.Ytpfggggoidfffaa
open Go.ChangeShapes Go.WideShapes Go.ChangeAt Go.RowKit
set_option linter.unusedVariables false
theorem walk_WordSums (a0 : Option Addr) (len0 cap0 : Nat) (z0 : List Int) (a1 : Int) (w : World) (w0 : IsRow .u32 w a0 len0 cap0 z0) (w1 : (Lit.int .i64 a1).wf = true) :
    Calls Try.prog 3 #[.slice a0 len0 cap0, .int .i64 a1] w fun e w' => e = .returned (.bool true) ∧ Below w.heap.size w w' := by
  have hcap : cap0 ≤ 9223372036854775807 := by
    rcases w0 with ⟨_, _, rfl, _⟩ | ⟨x, _, _, hm, _⟩
    · omega
    · unfold maxLen at hm; omega
  have hlc : len0 ≤ cap0 := by
    rcases w0 with ⟨_, rfl, _, _⟩ | ⟨x, _, hl, _⟩
    · omega
    · exact hl
  by_cases he : 40 < len0 ∨ a1 < 0 ∨ (len0 : Int) < a1
  · exact sums_early a0 len0 cap0 a1 w (by omega) he
  obtain ⟨cut, rfl⟩ : ∃ n : Nat, a1 = (n : Int) := ⟨a1.toNat, by omega⟩
  by_cases h0 : len0 = 0
  · subst h0
    obtain rfl : cut = 0 := by omega
    exact sums_empty a0 cap0 w hcap
  rcases w0 with ⟨_, rfl, _, _⟩ | ⟨x, rfl, hl, hm, hz, hcell, hwz⟩
  · omega
  obtain ⟨b, off, spot⟩ := x
  have hspot : spot = none := by simpa [Addr.add] using World.cell?_spot (hcell 0 (by omega))
  subst hspot
  have hg : ∀ i, i < len0 → (z0.take len0).getD i 0 = z0.getD i 0 := fun i hi => by simp [List.getD, hi]
  refine sums_main b off len0 cap0 (z0.take len0) cut w (Lib.hid (by simp; omega)) (by omega) hl (by omega) (by omega) hcap (fun i hi => ?_) (fun i hi => ?_)
  · rw [hg i hi]
    have := hcell i (by omega)
    by_cases hi0 : i = 0
    · subst hi0; simpa [Addr.add] using this
    · simpa [Addr.add, hi0] using this
  · rw [hg i hi]
    refine fit32 (hwz _ ?_)
    have hil : i < z0.length := by omega
    have : z0.getD i 0 = z0[i] := by simp [List.getD, hil]
    rw [this]; exact List.getElem_mem hil
end Go.Proofs.Ytpfggggoidfffaa
