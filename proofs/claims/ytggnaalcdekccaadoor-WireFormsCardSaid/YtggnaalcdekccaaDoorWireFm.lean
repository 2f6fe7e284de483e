import Derived.Test.YtggnaalcdekccaaDoorWireCt
namespace Go.Proofs.YtggnaalcdekccaaDoor
open Go.ChangeShapes Go.WideShapes Go.ChangeAt Go.RowKit
set_option linter.unusedVariables false
theorem enc_last (v : Nat) : ∀ n, v ≤ n → (enc v).getD ((enc v).length - 1) 0 < 128 := by
  intro n
  induction n generalizing v with
  | zero => intro h; rw [enc_lt (by omega)]; simp; omega
  | succ n ih =>
    intro h
    by_cases h1 : v < 128
    · rw [enc_lt h1]; simp; omega
    · rw [enc_ge (by omega)]
      have hp := List.length_pos_iff.2 (enc_ne (v / 128))
      obtain ⟨k, hk⟩ : ∃ k, (enc (v / 128)).length = k + 1 := ⟨(enc (v / 128)).length - 1, by omega⟩
      have := ih (v / 128) (by omega)
      simp only [List.length_cons, hk, Nat.add_sub_cancel] at this ⊢
      simpa using this
/-- A number whose last byte says that another follows, and then a 0. -/
def brk (v : Nat) : List Nat := (enc v).set ((enc v).length - 1) ((enc v).getD ((enc v).length - 1) 0 + 128) ++ [0]
theorem pars_brk : ∀ (n v i u : Nat), v ≤ n → pars i u (brk v) = (0, 0, 2) := by
  intro n
  induction n with
  | zero =>
    intro v i u h
    unfold brk
    rw [enc_lt (by omega)]
    simp [pars]
  | succ n ih =>
    intro v i u h
    by_cases h1 : v < 128
    · unfold brk
      rw [enc_lt h1]
      simp [pars]
    · have hp := List.length_pos_iff.2 (enc_ne (v / 128))
      obtain ⟨k, hk⟩ : ∃ k, (enc (v / 128)).length = k + 1 := ⟨(enc (v / 128)).length - 1, by omega⟩
      have e : brk v = (v % 128 + 128) :: brk (v / 128) := by
        unfold brk
        rw [enc_ge (by omega)]
        simp [hk]
      rw [e, pars]
      by_cases hc : (i = 9 ∧ 1 < v % 128 + 128) ∨ (0 < i ∧ v % 128 + 128 = 0)
      · rw [if_pos hc]
      · rw [if_neg hc, if_neg (by omega)]
        exact ih (v / 128) (i + 1) _ (by omega)
/-- No number's bytes begin another's. -/
theorem enc_begins {a b : Int} (ha : -9223372036854775808 ≤ a ∧ a ≤ 9223372036854775807) (hb : -9223372036854775808 ≤ b ∧ b ≤ 9223372036854775807) (hne : a ≠ b) : encs [a] ≠ (encs [b]).take (encs [a]).length := by
  intro e
  apply hne
  have h1 := pars_enc (zig a) (zig a) 0 0 ((encs [b]).drop (encs [a]).length) (Nat.le_refl _) (fun h => by omega) (by simpa using zig_lt ha.1 ha.2)
  have h2 := pars_enc (zig b) (zig b) 0 0 [] (Nat.le_refl _) (fun h => by omega) (by simpa using zig_lt hb.1 hb.2)
  have e1 : enc (zig a) ++ (encs [b]).drop (encs [a]).length = enc (zig b) ++ [] := by
    rw [← encs_one a, List.append_nil, ← encs_one b]
    conv => lhs; lhs; rw [e]
    exact List.take_append_drop _ _
  rw [e1, h2] at h1
  simp at h1
  exact zig_inj h1.1.symm
theorem enc_cells (v : Nat) : ((enc v).set ((enc v).length - 1) ((enc v).getD ((enc v).length - 1) 0 + 128)).map bc = ((enc v).map bc).set ((enc v).length - 1) (.int .u8 (((enc v).getD ((enc v).length - 1) 0 + 128 : Nat) : Int)) := by
  rw [List.map_set]; rfl
theorem or128s (x : Nat) (h : x < 128) : bits BinOp.or IntKind.u8 (x : Int) 128 = ((x + 128 : Nat) : Int) := by
  have : ∀ y : Fin 128, bits BinOp.or IntKind.u8 (y.val : Int) 128 = ((y.val + 128 : Nat) : Int) := by decide +kernel
  exact this ⟨x, h⟩
theorem set_alloc_cell (w : World) (a : Addr) (v u : Value) (t : TypeId) : ((w.setCell a v).alloc (.cells #[u] t)).cell? ⟨w.heap.size, 0, none⟩ = some u := by
  have := heap_alloc_new (w.setCell a v) (.cells #[u] t)
  rw [World.size_setCell] at this
  simp only [World.cell?, this]
  rfl
theorem brk_len (v : Nat) : (brk v).length = (enc v).length + 1 := by simp [brk]
theorem brk_byte (v : Nat) : ∀ y ∈ brk v, y < 256 := by
  intro y hy
  unfold brk at hy
  rcases List.mem_append.1 hy with h | h
  · rcases List.mem_or_eq_of_mem_set h with h | h
    · exact enc_byte' v y h
    · have := enc_last v _ (Nat.le_refl _); omega
  · simp at h; omega
theorem brk_cells (v : Nat) : (brk v).map bc = ((enc v).map bc).set ((enc v).length - 1) (.int .u8 (((enc v).getD ((enc v).length - 1) 0 + 128 : Nat) : Int)) ++ [.int .u8 0] := by
  unfold brk
  rw [List.map_append, List.map_set]
  rfl
theorem _root_.Go.World.ownsRow.base {w : World} {b e size : Nat} {v : Value} {n : Nat} {xs : List Value} (h : w.ownsRow b e size v n xs) (b' : Nat) (hb : b' ≤ b) : w.ownsRow b' e size v n xs := by
  refine ⟨h.1, h.2.imp id ?_⟩
  rintro ⟨g, cap, cur, h1, h2, h3⟩
  exact ⟨g, cap, cur, h1, Nat.le_trans hb h2, h3⟩
theorem own_get {w : World} {B g n cap : Nat} {bs : List Nat} (h : w.ownsRow B 5 1 (.slice (some ⟨g, 0, none⟩) n cap) n (bs.map bc)) (j : Nat) (hj : j < bs.length) : w.cell? ⟨g, j, none⟩ = some (.int .u8 ((bs.getD j 0 : Nat) : Int)) ∧ w.frozen? ⟨g, j, none⟩ = false := by
  have hn : bs.length = n := by simpa using h.1
  rcases h.2 with ⟨h', _⟩ | ⟨g', c', cur, h', hb, hg, hnc, hcm, hcs, htake⟩
  · simp at h'
  · simp only [Value.slice.injEq, Option.some.injEq, Addr.mk.injEq, and_true, true_and] at h'
    obtain ⟨rfl, rfl⟩ := h'
    refine ⟨?_, by simp [World.frozen?, hg]⟩
    have e : (cur.toList.take (n * 1))[j]? = (bs.map bc)[j]? := by rw [htake]
    simp only [Nat.mul_one, List.getElem?_take, show j < n by omega, if_true, Array.getElem?_toList, List.getElem?_map] at e
    simp only [World.cell?, hg]
    simp [e, List.getD, hj, bc]
end Go.Proofs.YtggnaalcdekccaaDoor
