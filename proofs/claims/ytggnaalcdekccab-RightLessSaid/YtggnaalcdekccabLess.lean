import Derived.Test.YtggnaalcdekccabRightFns
namespace Go.Proofs.Ytggnaalcdekccab
open Go.ChangeShapes Go.WideShapes Go.ChangeAt Go.RowKit
set_option linter.unusedVariables false
/-- Rights taken away, one by one; other numbers do nothing. -/
def lessOne (r x : Int) : Int := if x = 1 ∨ x = 2 ∨ x = 4 then bits BinOp.or IntKind.i64 r x else r
def lessR (r : Int) (l : List Int) : Int := l.foldl lessOne r
theorem lessR_snoc (r : Int) (l : List Int) (x : Int) : lessR r (l ++ [x]) = lessOne (lessR r l) x := by simp [lessR, List.foldl_append]
theorem take_snoc (xs : List Int) (k : Nat) (h : k < xs.length) : xs.take (k + 1) = xs.take k ++ [xs.getD k 0] := by
  rw [List.take_succ_eq_append_getElem h]; simp [List.getD, h]

/-- A slice of numbers whose elements are xs. -/
structure RowI (w : World) (a : Option Addr) (len : Nat) (xs : List Int) : Prop where
  len_eq : xs.length = len
  cells : len = 0 ∨ ∃ b off, a = some ⟨b, off, none⟩ ∧ b < w.heap.size ∧ ∀ i, i < len → w.cell? ⟨b, off + i, none⟩ = some (.int .i64 (xs.getD i 0))

/-- The worlds within Less: the key's box, the answer's place. -/
structure LR (w wr : World) (k0 k1 k2 R k4 : Int) : Prop where
  bel : Below w.heap.size w wr
  size : w.heap.size + 1 < wr.heap.size
  box : wr.cell? ⟨w.heap.size, 0, none⟩ = some (.int .i64 k0) ∧ wr.cell? ⟨w.heap.size, 1, none⟩ = some (.int .i64 k1) ∧ wr.cell? ⟨w.heap.size, 2, none⟩ = some (.int .i64 k2) ∧ wr.cell? ⟨w.heap.size, 3, none⟩ = some (.int .i64 R) ∧ wr.cell? ⟨w.heap.size, 4, none⟩ = some (.int .u32 k4)
  out : ∀ i, i < 5 → ∃ v, wr.cell? ⟨w.heap.size + 1, i, none⟩ = some v
  fr : ∀ i, wr.frozen? ⟨w.heap.size, i, none⟩ = false
  fr1 : ∀ i, wr.frozen? ⟨w.heap.size + 1, i, none⟩ = false
theorem LR.start (w w1 : World) (k0 k1 k2 k3 k4 : Int)
    (hb : Below ((w.alloc (.cells #[.int .i64 k0, .int .i64 k1, .int .i64 k2, .int .i64 k3, .int .u32 k4] 24)).alloc (.cells #[.int .i64 0, .int .i64 0, .int .i64 0, .int .i64 0, .int .u32 0] 24)).heap.size ((w.alloc (.cells #[.int .i64 k0, .int .i64 k1, .int .i64 k2, .int .i64 k3, .int .u32 k4] 24)).alloc (.cells #[.int .i64 0, .int .i64 0, .int .i64 0, .int .i64 0, .int .u32 0] 24)) w1) : LR w w1 k0 k1 k2 k3 k4 := by
  have hc := (bcell hb).1
  have hf := (bcell hb).2
  have hz := hb.size
  simp at hz
  refine ⟨Below.trans (((Below.refl _ _).alloc (Nat.le_refl _) _).alloc (by simp) _) (hb.mono (by simp; omega)), by omega, ?_, fun i hi => ?_, fun i => ?_, fun i => ?_⟩
  · refine ⟨?_, ?_, ?_, ?_, ?_⟩ <;> (rw [hc _ _ (by simp; omega)]; simp)
  · rw [hc _ _ (by simp)]
    match i, hi with
    | 0, _ => exact ⟨_, by simp; rfl⟩
    | 1, _ => exact ⟨_, by simp; rfl⟩
    | 2, _ => exact ⟨_, by simp; rfl⟩
    | 3, _ => exact ⟨_, by simp; rfl⟩
    | 4, _ => exact ⟨_, by simp; rfl⟩
  · rw [hf _ _ (by simp; omega)]; simp
  · rw [hf _ _ (by simp)]; simp
theorem LR.set {w wr : World} {k0 k1 k2 R k4 : Int} (h : LR w wr k0 k1 k2 R k4) (x : Int) : LR w (wr.setCell ⟨w.heap.size, 3, none⟩ (.int .i64 x)) k0 k1 k2 x k4 := by
  obtain ⟨h1, h2, ⟨a0, a1, a2, a3, a4⟩, h4, h5, h6⟩ := h
  refine ⟨h1.setCell (by simp) _, by simpa [World.setCell] using h2, ?_, fun i hi => ?_, fun i => ?_, fun i => ?_⟩
  · refine ⟨?_, ?_, ?_, ?_, ?_⟩
    · rw [World.cell?_setCell_other _ _ _ _ (by simp)]; exact a0
    · rw [World.cell?_setCell_other _ _ _ _ (by simp)]; exact a1
    · rw [World.cell?_setCell_other _ _ _ _ (by simp)]; exact a2
    · exact World.cell?_setCell_same wr _ _ a3
    · rw [World.cell?_setCell_other _ _ _ _ (by simp)]; exact a4
  · rw [World.cell?_setCell_other _ _ _ _ (by simp)]; exact h4 i hi
  · rw [World.frozen?_setCell]; exact h5 i
  · rw [World.frozen?_setCell]; exact h6 i
set_option maxHeartbeats 1000000 in
theorem less_mem (k0 k1 k2 k3 k4 : Int) (a : Option Addr) (len cap : Nat) (xs : List Int) (w : World) (hk : k0 = 2 ∨ k0 = 3) (hx : RowI w a len xs) (hm : len ≤ 9223372036854775807) :
    Calls Try.prog 10 #[(Value.agg #[.int .i64 k0, .int .i64 k1, .int .i64 k2, .int .i64 k3, .int .u32 k4]), .slice a len cap] w fun e w' => e = .returned (.agg #[.int .i64 k0, .int .i64 k1, .int .i64 k2, .int .i64 (lessR k3 xs), .int .u32 k4]) ∧ Below w.heap.size w w' := by
  obtain ⟨hl, hcs⟩ := hx
  have HL := Lib.hid hl
  have HC := Lib.hid hcs
  clear hl hcs
  go_enter Try.func10, Try.ntmps10
  go_wp2_with (first | (go_at_call 26; refine (ismem_yes _ _ _ _ _ hk _).mono ?_; rintro e w1 ⟨rfl, hb⟩; have hs := LR.start w w1 k0 k1 k2 k3 k4 hb; clear hb))
  have HS := Lib.hid hs
  clear hs
  go_loopw [13] (fun i wr => ∃ j : Nat, j ≤ len ∧ i = .int .i64 j ∧ LR w wr k0 k1 k2 (lessR k3 (xs.take j)) k4) (fun i _ => len - (intOf i).toNat)
  case atStart => exact ⟨0, Nat.zero_le _, rfl, HS.out⟩
  case round =>
    obtain ⟨j, hj, rfl, hR⟩ := hrel
    have hB := hR.bel
    have hz := hR.size
    obtain ⟨b0, b1, b2, b3, b4⟩ := hR.box
    have fr3 := hR.fr 3
    by_cases hlt : j < len
    · obtain ⟨x, hx⟩ : ∃ x, xs.getD j 0 = x := ⟨_, rfl⟩
      have H1 : Hid (lessR k3 (xs.take (j + 1)) = lessOne (lessR k3 (xs.take j)) x) := Lib.hid (by rw [take_snoc xs j (by rw [HL.out]; exact hlt), lessR_snoc, hx])
      have HR := Lib.hid hR
      have HB := Lib.hid hB
      have HX := Lib.hid hx
      rcases HC.out with h0 | ⟨b, off, rfl, hbl, hc⟩
      · omega
      have hcell : wr.cell? ⟨b, off + j, none⟩ = some (.int .i64 x) := by rw [← hx]; exact (hB.cell (p := ⟨b, off + j, none⟩) hbl).trans (hc j hlt)
      clear hR hB hx hc
      have fin : ∀ (r : Int) (W : World), lessOne (lessR k3 (xs.take j)) x = r → LR w W k0 k1 k2 r k4 → LR w W k0 k1 k2 (lessR k3 (xs.take (j + 1))) k4 := fun r W h1 h2 => by rw [H1.out, h1]; exact h2
      by_cases hx1 : x = 1 ∨ x = 2 ∨ x = 4
      · have hS := HR.out.set (bits BinOp.or IntKind.i64 (lessR k3 (xs.take j)) x)
        have hN := Lib.hid (fin _ _ (if_pos hx1) hS)
        clear hS fin
        rcases hx1 with rfl | rfl | rfl
        all_goals
          go_wp2
          go_roundw
          case rel => exact ⟨j + 1, by omega, by go_num, hN.out⟩
          case measure => simp [intOf]; omega
      · have hN := Lib.hid (fin _ _ (if_neg hx1) HR.out)
        have e1 : (x == 1) = false := by simp; omega
        have e2 : (x == 2) = false := by simp; omega
        have e4 : (x == 4) = false := by simp; omega
        clear fin
        go_wp2
        go_roundw
        case rel => exact ⟨j + 1, by omega, by go_num, hN.out⟩
        case measure => simp [intOf]; omega
    · have he : xs.take j = xs := List.take_of_length_le (by rw [HL.out]; omega)
      rw [he] at b3
      obtain ⟨v0, c0⟩ := hR.out 0 (by decide)
      obtain ⟨v1, c1⟩ := hR.out 1 (by decide)
      obtain ⟨v2, c2⟩ := hR.out 2 (by decide)
      obtain ⟨v3, c3⟩ := hR.out 3 (by decide)
      obtain ⟨v4, c4⟩ := hR.out 4 (by decide)
      have f0 := hR.fr1 0
      have f1 := hR.fr1 1
      have f2 := hR.fr1 2
      have f3 := hR.fr1 3
      have f4 := hR.fr1 4
      have HB := Lib.hid hB
      clear hB hR he
      go_wp2
      refine bodyPost_ret (v := .agg #[.int .i64 k0, .int .i64 k1, .int .i64 k2, .int .i64 (lessR k3 xs), .int .u32 k4]) (by simp [results, Try.results10, go_sem, *]) rfl ⟨rfl, ?_⟩
      exact ((((HB.out.setCell (by simp) _).setCell (by simp) _).setCell (by simp) _).setCell (by simp) _).setCell (by simp) _
theorem less_not (k0 k1 k2 k3 k4 : Int) (a : Option Addr) (len cap : Nat) (w : World) (h2 : ¬ k0 = 2) (h3 : ¬ k0 = 3) :
    Calls Try.prog 10 #[(Value.agg #[.int .i64 k0, .int .i64 k1, .int .i64 k2, .int .i64 k3, .int .u32 k4]), .slice a len cap] w fun e w' => e = .returned (Value.agg #[.int .i64 k0, .int .i64 k1, .int .i64 k2, .int .i64 k3, .int .u32 k4]) ∧ Below w.heap.size w w' := by
  go_enter Try.func10, Try.ntmps10
  go_wp2_with (first | (go_at_call 26; refine (ismem_no _ _ _ _ _ h2 h3 _).mono ?_; rintro e w1 ⟨rfl, hb⟩; have hc := (bcell hb).1; have hf := (bcell hb).2; have hz := hb.size))
  refine bodyPost_ret (v := (Value.agg #[.int .i64 k0, .int .i64 k1, .int .i64 k2, .int .i64 k3, .int .u32 k4])) (by simp [results, Try.results10, go_sem, hc]) rfl ⟨rfl, ?_⟩
  exact (((((Below.trans (((Below.refl _ _).alloc (Nat.le_refl _) _).alloc (by simp) _) (hb.mono (by simp; omega))).setCell (by simp) _).setCell (by simp) _).setCell (by simp) _).setCell (by simp) _).setCell (by simp) _
def lessK (k0 k3 : Int) (l : List Int) : Int := if k0 = 2 ∨ k0 = 3 then lessR k3 l else k3
theorem less_any (k0 k1 k2 k3 k4 : Int) (a : Option Addr) (len cap : Nat) (xs : List Int) (w : World) (hx : RowI w a len xs) (hm : len ≤ 9223372036854775807) (x3 : Int) (h : Hid (lessK k0 k3 xs = x3)) :
    Calls Try.prog 10 #[(Value.agg #[.int .i64 k0, .int .i64 k1, .int .i64 k2, .int .i64 k3, .int .u32 k4]), .slice a len cap] w fun e w' => e = .returned (.agg #[.int .i64 k0, .int .i64 k1, .int .i64 k2, .int .i64 x3, .int .u32 k4]) ∧ Below w.heap.size w w' := by
  rw [← h.out]
  by_cases hk : k0 = 2 ∨ k0 = 3
  · have e : lessK k0 k3 xs = lessR k3 xs := if_pos hk
    rw [e]; exact less_mem k0 k1 k2 k3 k4 a len cap xs w hk hx hm
  · have e : lessK k0 k3 xs = k3 := if_neg hk
    rw [e]; exact less_not k0 k1 k2 k3 k4 a len cap w (by omega) (by omega)
theorem RowI.new3 (W : World) (p q r : Int) : RowI (W.alloc (.cells #[.int .i64 p, .int .i64 q, .int .i64 r] 3)) (some ⟨W.heap.size, 0, none⟩) 3 [p, q, r] := by
  refine ⟨rfl, .inr ⟨W.heap.size, 0, rfl, by simp, fun i hi => ?_⟩⟩
  match i, hi with
  | 0, _ => simp
  | 1, _ => simp
  | 2, _ => simp
theorem less3 (k0 k1 k2 k3 k4 : Int) (p q r x3 : Int) (h : Hid (lessK k0 k3 [p, q, r] = x3)) (W : World) (n : Nat) (hn : W.heap.size = n) :
    Calls Try.prog 10 #[(Value.agg #[.int .i64 k0, .int .i64 k1, .int .i64 k2, .int .i64 k3, .int .u32 k4]), .slice (some ⟨n, 0, none⟩) 3 3] (W.alloc (.cells #[.int .i64 p, .int .i64 q, .int .i64 r] 3)) fun e w' => e = .returned (.agg #[.int .i64 k0, .int .i64 k1, .int .i64 k2, .int .i64 x3, .int .u32 k4]) ∧ Below (W.alloc (.cells #[.int .i64 p, .int .i64 q, .int .i64 r] 3)).heap.size (W.alloc (.cells #[.int .i64 p, .int .i64 q, .int .i64 r] 3)) w' := by
  subst hn
  exact less_any k0 k1 k2 k3 k4 _ 3 3 [p, q, r] _ (RowI.new3 W p q r) (by omega) x3 h
end Go.Proofs.Ytggnaalcdekccab
