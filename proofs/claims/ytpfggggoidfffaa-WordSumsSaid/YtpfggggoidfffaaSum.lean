import Derived.Test.YtpfggggoidfffaaDo
namespace Go.Proofs.Ytpfggggoidfffaa
open Go.ChangeShapes Go.WideShapes Go.ChangeAt Go.RowKit
set_option linter.unusedVariables false

/-- The words added, one by one. -/
def sumM (xs : List Int) : Int := xs.foldl (fun s x => (s + x) % 4294967296) 0
theorem sumM_bd (xs : List Int) : 0 ≤ sumM xs ∧ sumM xs ≤ 4294967295 := by
  unfold sumM
  suffices h : ∀ (xs : List Int) (s : Int), 0 ≤ s ∧ s ≤ 4294967295 → 0 ≤ xs.foldl (fun s x => (s + x) % 4294967296) s ∧ xs.foldl (fun s x => (s + x) % 4294967296) s ≤ 4294967295 from h xs 0 (by decide)
  intro xs
  induction xs with
  | nil => intro s h; exact h
  | cons x r ih => intro s h; exact ih _ (by show 0 ≤ (s + x) % 4294967296 ∧ (s + x) % 4294967296 ≤ 4294967295; omega)
theorem sumM_snoc (xs : List Int) (x : Int) : sumM (xs ++ [x]) = (sumM xs + x) % 4294967296 := by simp [sumM, List.foldl_append]
theorem take_snoc' (xs : List Int) (k : Nat) (h : k < xs.length) : xs.take (k + 1) = xs.take k ++ [xs.getD k 0] := by
  rw [List.take_succ_eq_append_getElem h]; simp [List.getD, h]

/-- A slice of words whose elements are xs. -/
structure Row (w : World) (a : Option Addr) (len : Nat) (xs : List Int) : Prop where
  len_eq : xs.length = len
  cells : len = 0 ∨ ∃ b off, a = some ⟨b, off, none⟩ ∧ ∀ i, i < len → w.cell? ⟨b, off + i, none⟩ = some (.int .u32 (xs.getD i 0))
  fits : ∀ i, i < len → Fit (xs.getD i 0)

theorem Row.drew {w : World} {a : Option Addr} {len : Nat} {xs : List Int} (h : Row w a len xs) : Row w.drew a len xs := ⟨h.1, h.2, h.3⟩
theorem Row.drewN {w : World} {a : Option Addr} {len : Nat} {xs : List Int} (h : Row w a len xs) (n : Nat) : Row (w.drewN n) a len xs := ⟨h.1, h.2, h.3⟩
theorem Row.new2 (w : World) (x y : Int) (t : TypeId) (fx : Fit x) (fy : Fit y) : Row (w.alloc (.cells #[.int .u32 x, .int .u32 y] t)) (some ⟨w.heap.size, 0, none⟩) 2 [x, y] := by
  refine ⟨rfl, .inr ⟨w.heap.size, 0, rfl, fun i hi => ?_⟩, fun i hi => ?_⟩
  · match i, hi with
    | 0, _ => simp
    | 1, _ => simp
  · match i, hi with
    | 0, _ => exact fx
    | 1, _ => exact fy
theorem fit_sum (xs : List Int) : Fit (sumM xs) := ⟨(sumM_bd xs).1, (sumM_bd xs).2⟩
theorem Row.pre {w : World} {a : Option Addr} {len cut : Nat} {xs : List Int} (h : Row w a len xs) (hc : cut ≤ len) : Row w a cut (xs.take cut) := by
  obtain ⟨hl, hr, hf⟩ := h
  have hg : ∀ i, i < cut → (xs.take cut).getD i 0 = xs.getD i 0 := fun i hi => by simp [List.getD, hi]
  refine ⟨by simp; omega, ?_, fun i hi => by rw [hg i hi]; exact hf i (by omega)⟩
  rcases hr with h0 | ⟨b, off, rfl, hcell⟩
  · exact .inl (by omega)
  · exact .inr ⟨b, off, rfl, fun i hi => by rw [hg i hi]; exact hcell i (by omega)⟩
theorem Row.suf {w : World} {b off len cut : Nat} {xs : List Int} (h : Row w (some ⟨b, off, none⟩) len xs) (hc : cut ≤ len) : Row w (some ⟨b, off + cut, none⟩) (len - cut) (xs.drop cut) := by
  obtain ⟨hl, hr, hf⟩ := h
  have hg : ∀ i, (xs.drop cut).getD i 0 = xs.getD (cut + i) 0 := fun i => by simp [List.getD]
  refine ⟨by simp; omega, ?_, fun i hi => by rw [hg]; exact hf _ (by omega)⟩
  rcases hr with h0 | ⟨b', off', e, hcell⟩
  · exact .inl (by omega)
  · cases e
    exact .inr ⟨b, off + cut, rfl, fun i hi => by rw [hg, Nat.add_assoc]; exact hcell _ (by omega)⟩
theorem sumM_foldl (xs : List Int) : ∀ s, xs.foldl (fun s x => (s + x) % 4294967296) s % 4294967296 = (s + sumM xs) % 4294967296 := by
  unfold sumM
  induction xs with
  | nil => intro s; simp
  | cons x r ih =>
    intro s
    simp only [List.foldl_cons]
    have h1 := ih ((s + x) % 4294967296)
    have h2 := ih ((0 + x) % 4294967296)
    omega
theorem sumM_append (xs ys : List Int) : sumM (xs ++ ys) = (sumM xs + sumM ys) % 4294967296 := by
  have h := sumM_foldl ys (sumM xs)
  have e : sumM (xs ++ ys) = ys.foldl (fun s x => (s + x) % 4294967296) (sumM xs) := by simp [sumM, List.foldl_append]
  have b := sumM_bd (xs ++ ys)
  rw [← e] at h
  omega
theorem sumM_split (xs : List Int) (cut : Nat) : sumM [sumM (xs.drop cut), sumM (xs.take cut)] = sumM xs := by
  have h := sumM_append (xs.take cut) (xs.drop cut)
  rw [List.take_append_drop] at h
  rw [h]
  simp only [sumM, List.foldl_cons, List.foldl_nil]
  omega

theorem sum_any (a : Option Addr) (len cap : Nat) (xs : List Int) (w : World) (h : Row w a len xs) (hm : len ≤ maxLen) :
    Calls Try.prog 8 #[.slice a len cap] w fun e w' => e = .returned (.int .u32 (sumM xs)) ∧ w = w' := by
  unfold maxLen at hm
  obtain ⟨hl, hc, hf⟩ := h
  rcases hc with h0 | ⟨b, off, rfl, hc⟩
  · obtain rfl : xs = [] := by cases xs with
      | nil => rfl
      | cons x r => simp at hl; omega
    subst h0
    clear hl hf
    have hs : sumM [] = 0 := rfl
    rw [hs]
    go_enter Try.func8, Try.ntmps8
    go_wp2
    go_loop [3, 8] (fun s i => s = .int .u32 0 ∧ i = .int .i64 0) (fun _ _ => 0)
    case atStart => exact ⟨rfl, rfl⟩
    case round =>
      obtain ⟨rfl, rfl⟩ := hrel
      go_wp2
      go_ret
      exact ⟨rfl, rfl⟩
  · have HL := Lib.hid hl
    clear hl
    go_enter Try.func8, Try.ntmps8
    go_wp2
    go_loop [3, 8] (fun s i => ∃ k : Nat, k ≤ len ∧ i = .int .i64 k ∧ s = .int .u32 (sumM (xs.take k))) (fun _ i => len - (intOf i).toNat)
    case atStart => exact ⟨0, Nat.zero_le _, rfl, rfl⟩
    case round =>
      obtain ⟨k, hk, rfl, rfl⟩ := hrel
      have hb := sumM_bd (xs.take k)
      by_cases hlt : k < len
      · have hcell := hc k hlt
        have H1 := Lib.hid (sumM_snoc (xs.take k) (xs.getD k 0))
        have H2 := Lib.hid (take_snoc' xs k (by rw [HL.out]; exact hlt))
        clear hf
        go_wp2
        go_round
        case rel => exact ⟨k + 1, by omega, by go_num, by rw [H2.out, H1.out]; rfl⟩
        case measure => simp [intOf]; omega
      · have he : k = len := by omega
        subst he
        go_wp2
        go_ret
        exact ⟨by rw [List.take_of_length_le (by have := HL.out; omega)]; rfl, rfl⟩
end Go.Proofs.Ytpfggggoidfffaa
