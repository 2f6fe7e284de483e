/-
  From the opened arguments and the listed variables to what the walks of chapter 1 ask.
-/
import Derived.Test.YtggnaalcdekccaaDoorWireBy
namespace Go.Proofs.YtggnaalcdekccaaDoor
open Go.ChangeShapes Go.WideShapes Go.ChangeAt Go.RowKit
set_option linter.unusedVariables false
theorem u8_fit {a : Int} (h : (Lit.int .u8 a).wf = true) : 0 ≤ a ∧ a ≤ 255 := by simpa [Lit.wf, IntKind.min, IntKind.max, IntKind.signed, IntKind.bits] using h
theorem i64_fit2 {a : Int} (h : (Lit.int .i64 a).wf = true) : -9223372036854775808 ≤ a ∧ a ≤ 9223372036854775807 := by simpa [Lit.wf, IntKind.min, IntKind.max, IntKind.signed, IntKind.bits] using h
theorem isrow_src {w : World} {a : Option Addr} {len cap : Nat} {zs : List Int} (h : IsRow .u8 w a len cap zs) : ∃ ms : List Nat, ms.length = len ∧ SrcB w a ms ∧ (∀ ad, a = some ad → 0 < ms.length → ad.block < w.heap.size) ∧ (a = none → cap = 0) ∧ len ≤ cap ∧ cap ≤ maxLen := by
  rcases h with ⟨rfl, rfl, rfl, rfl⟩ | ⟨x, rfl, h1, h2, h3, h4, h5⟩
  · exact ⟨[], rfl, ⟨by simp, fun _ => rfl, fun ad h => by cases h⟩, (fun ad h => by cases h), fun _ => rfl, Nat.le_refl _, by simp⟩
  · refine ⟨(zs.take len).map Int.toNat, by simp; omega, ⟨?_, (fun h => by cases h), fun ad had => ?_⟩, fun ad had h0 => ?_, (fun h => by cases h), h1, h2⟩
    · intro y hy
      obtain ⟨z, hz, rfl⟩ := List.mem_map.1 hy
      have := u8_fit (h5 z (List.mem_of_mem_take hz))
      omega
    · obtain rfl := Option.some.inj had
      intro i hi
      have hil : i < len := by simp at hi; omega
      have hiz : i < zs.length := by omega
      have hf := u8_fit (h5 zs[i] (List.getElem_mem _))
      have e : ((zs.take len).map Int.toNat).getD i 0 = (zs[i]).toNat := by
        simp [List.getD, hil, hiz]
      rw [e]
      refine ⟨?_, by omega⟩
      rw [h4 i hiz, show zs.getD i 0 = zs[i] by simp [List.getD, hiz]]
      unfold bc
      rw [show ((zs[i].toNat : Nat) : Int) = zs[i] by omega]
    · obtain rfl := Option.some.inj had
      have hl : 0 < zs.length := by simp at h0; omega
      have := cell_lt2 (h4 0 hl)
      unfold Addr.add at this; split at this <;> exact this
theorem isrow_longs {w : World} {a : Option Addr} {len cap : Nat} {zs : List Int} (h : IsRow .i64 w a len cap zs) : ∃ ns : List Int, ns.length = len ∧ SrcL w a ns ∧ (∀ ad, a = some ad → 0 < ns.length → ad.block < w.heap.size) ∧ (a = none → cap = 0) ∧ len ≤ cap ∧ cap ≤ maxLen := by
  rcases h with ⟨rfl, rfl, rfl, rfl⟩ | ⟨x, rfl, h1, h2, h3, h4, h5⟩
  · exact ⟨[], rfl, ⟨by simp, fun _ => rfl, fun ad h => by cases h⟩, (fun ad h => by cases h), fun _ => rfl, Nat.le_refl _, by simp⟩
  · refine ⟨zs.take len, by simp; omega, ⟨?_, (fun h => by cases h), fun ad had => ?_⟩, fun ad had h0 => ?_, (fun h => by cases h), h1, h2⟩
    · intro y hy
      exact i64_fit2 (h5 y (List.mem_of_mem_take hy))
    · obtain rfl := Option.some.inj had
      intro i hi
      have hil : i < len := by simp at hi; omega
      have hiz : i < zs.length := by omega
      have hf := i64_fit2 (h5 zs[i] (List.getElem_mem _))
      have e : (zs.take len).getD i 0 = zs[i] := by simp [List.getD, hil, hiz]
      rw [e]
      refine ⟨?_, hf⟩
      rw [h4 i hiz, show zs.getD i 0 = zs[i] by simp [List.getD, hiz]]
    · obtain rfl := Option.some.inj had
      have hl : 0 < zs.length := by simp at h0; omega
      have := cell_lt2 (h4 0 hl)
      unfold Addr.add at this; split at this <;> exact this
theorem sen_of {l : List (String × DataW Unit)} {w : World} (h : laidMet Tryd.prog l w)
    (hl : ∀ n ∈ ["turnkey/api.ErrEnd", "turnkey/api.ErrShape", "turnkey/api.ErrRange", "turnkey/api.ErrMany", "turnkey/api.ErrNone", "turnkey/api.ErrFull", "turnkey/api.ErrLimit", "turnkey/api.ErrOwn", "turnkey/api.ErrState", "turnkey/api.ErrRight", "turnkey/api.ErrWord", "turnkey/api.ErrNumber"], ∃ t, (n, DataW.iface "*errors.errorString" (.ptr (.agg [.lit (.string t)]))) ∈ l) : Sen (atErr w) w := by
  refine errs_are h (fun g hg => ?_)
  unfold G12 at hg
  simp only [List.mem_cons, List.not_mem_nil, or_false] at hg
  rcases hg with rfl | rfl | rfl | rfl | rfl | rfl | rfl | rfl | rfl | rfl | rfl | rfl
  · obtain ⟨t, ht⟩ := hl "turnkey/api.ErrEnd" (by simp); exact ⟨_, t, ht, gErrEnd, tErrEnd⟩
  · obtain ⟨t, ht⟩ := hl "turnkey/api.ErrShape" (by simp); exact ⟨_, t, ht, gErrShape, tErrShape⟩
  · obtain ⟨t, ht⟩ := hl "turnkey/api.ErrRange" (by simp); exact ⟨_, t, ht, gErrRange, tErrRange⟩
  · obtain ⟨t, ht⟩ := hl "turnkey/api.ErrMany" (by simp); exact ⟨_, t, ht, gErrMany, tErrMany⟩
  · obtain ⟨t, ht⟩ := hl "turnkey/api.ErrNone" (by simp); exact ⟨_, t, ht, gErrNone, tErrNone⟩
  · obtain ⟨t, ht⟩ := hl "turnkey/api.ErrFull" (by simp); exact ⟨_, t, ht, gErrFull, tErrFull⟩
  · obtain ⟨t, ht⟩ := hl "turnkey/api.ErrLimit" (by simp); exact ⟨_, t, ht, gErrLimit, tErrLimit⟩
  · obtain ⟨t, ht⟩ := hl "turnkey/api.ErrOwn" (by simp); exact ⟨_, t, ht, gErrOwn, tErrOwn⟩
  · obtain ⟨t, ht⟩ := hl "turnkey/api.ErrState" (by simp); exact ⟨_, t, ht, gErrState, tErrState⟩
  · obtain ⟨t, ht⟩ := hl "turnkey/api.ErrRight" (by simp); exact ⟨_, t, ht, gErrRight, tErrRight⟩
  · obtain ⟨t, ht⟩ := hl "turnkey/api.ErrWord" (by simp); exact ⟨_, t, ht, gErrWord, tErrWord⟩
  · obtain ⟨t, ht⟩ := hl "turnkey/api.ErrNumber" (by simp); exact ⟨_, t, ht, gErrNumber, tErrNumber⟩
end Go.Proofs.YtggnaalcdekccaaDoor
