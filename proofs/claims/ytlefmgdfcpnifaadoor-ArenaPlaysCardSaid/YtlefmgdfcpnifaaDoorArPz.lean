/-
  ArenaPlays: the walk.
-/
import Derived.Test.YtlefmgdfcpnifaaDoorArPi
import Derived.Test.YtlefmgdfcpnifaaDoorArPo
import Derived.Test.YtlefmgdfcpnifaaDoorArPn
namespace Go.Proofs.YtlefmgdfcpnifaaDoor
open Go.ChangeShapes Go.WideShapes Go.ChangeAt Go.RowKit
set_option linter.unusedVariables false
theorem walk_ArenaPlays (a0 : Int) (a1 : Option Addr) (len1 cap1 : Nat) (z1 : List Int) (a2 : Int) (w : World) (w0 : (Lit.int .i64 a0).wf = true) (w1 : IsRow .i64 w a1 len1 cap1 z1) (w2 : (Lit.int .i64 a2).wf = true) (hL : laidMetH Tryd.prog Rows.arenaPlaysRow.laid w) :
    Calls Tryd.prog 3 #[.int .i64 a0, .slice a1 len1 cap1, .int .i64 a2] w fun e w' => e = .returned (.bool true) ∧ Below w.heap.size w w' := by
  rw [MakeChecks.laidMetH_plain _ _ _ (by kernel_rfl)] at hL
  have hS := (sen_of hL (by intro n hn; simp only [List.mem_cons, List.not_mem_nil, or_false] at hn; rcases hn with rfl | rfl | rfl | rfl | rfl | rfl | rfl | rfl | rfl | rfl | rfl | rfl <;> exact ⟨_, by repeat (first | exact List.Mem.head _ | apply List.Mem.tail)⟩))
  have hm : len1 ≤ 9223372036854775807 := by
    rcases w1 with ⟨-, h, -, -⟩ | ⟨x, -, h1, h2, -⟩
    · omega
    · unfold maxLen at h2; omega
  have ha0 : a1 = none → len1 = 0 := by
    intro e
    rcases w1 with ⟨-, h, -, -⟩ | ⟨x, h, -⟩
    · exact h
    · rw [e] at h; exact absurd h (by simp)
  have hN : Nums w a1 len1 z1 := by
    intro ad had h0
    rcases w1 with ⟨h, -, -, -⟩ | ⟨x, h, h1, h2, h3, h4, h5⟩
    · rw [had] at h; exact absurd h (by simp)
    · obtain rfl : x = ad := by rw [h] at had; exact Option.some.inj had
      refine ⟨?_, fun i hi => ?_⟩
      · have hc := h4 0 (by omega)
        rcases Nat.lt_or_ge x.block w.heap.size with h' | h'
        · exact h'
        · have : (x.add 0).block = x.block := add_block' x 0
          simp [World.cell?, this, Array.getElem?_eq_none h'] at hc
      · have hz : z1.getD i 0 ∈ z1 := by
          rw [show z1.getD i 0 = z1[i]'(by omega) by simp [List.getD, show i < z1.length by omega]]
          exact List.getElem_mem _
        exact ⟨h4 i (by omega), (i64_fit (h5 _ hz)).1, (i64_fit (h5 _ hz)).2⟩
  by_cases hn : 1 ≤ a0 ∧ a0 ≤ 256
  · obtain ⟨n, rfl⟩ : ∃ n : Nat, a0 = n := ⟨a0.toNat, by omega⟩
    by_cases hl : 100 < len1
    · exact plays_big n a2 a1 len1 cap1 (by omega) (by omega) hl hm w
    · by_cases h1 : a2 < 0
      · exact plays_lo n a2 a1 len1 cap1 z1 (by omega) (by omega) (i64_fit w2).1 (i64_fit w2).2 h1 (by omega) w _ hS ha0 hN
      · by_cases h2 : a2 < n
        · exact plays_in n a2 a1 len1 cap1 z1 (by omega) (by omega) (i64_fit w2).1 (i64_fit w2).2 (by omega) h2 (by omega) w _ hS ha0 hN
        · exact plays_hi n a2 a1 len1 cap1 z1 (by omega) (by omega) (i64_fit w2).1 (i64_fit w2).2 (by omega) (by omega) w _ hS ha0 hN
  · exact plays_range a0 a2 a1 len1 cap1 hn w _ hS
end Go.Proofs.YtlefmgdfcpnifaaDoor
