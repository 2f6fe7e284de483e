/-
  package page: Write, Words.
-/
import Derived.Test.YtkhgnmgcdgjncaaDoorPgF
import Derived.Maps.AppendAt
namespace Go.Proofs.YtkhgnmgcdgjncaaDoor
open Go.ChangeShapes Go.WideShapes Go.ChangeAt Go.RowKit
set_option linter.unusedVariables false
theorem infoU : (Tryd.prog.info? 23).map (fun i => (i.zero, i.size, i.bytes)) = some (some (.int .u32 0), 1, 4) := by kernel_rfl
/-- One word anew. -/
def updA (W : Nat → Nat → Int) (i j : Nat) (x : Int) : Nat → Nat → Int := fun a b => if a = i ∧ b = j then x else W a b
theorem flat_set (W : Nat → Nat → Int) (n i j : Nat) (x : Int) (hi : i < n) (hj : j < 32) : (flat W n).set (i * 32 + j) (.int .u32 x) = flat (updA W i j x) n := by
  apply List.ext_getElem?
  intro q
  by_cases hq : q < n * 32
  · by_cases e : q = i * 32 + j
    · subst e
      rw [List.getElem?_set_self (by rw [flat_len]; exact hq), flat_at _ n i j hi hj]
      simp [updA]
    · rw [List.getElem?_set_ne (by omega)]
      have : ¬ (q / 32 = i ∧ q % 32 = j) := by omega
      simp only [flat, List.getElem?_map, List.getElem?_range hq, Option.map_some, updA, if_neg this]
  · rw [List.getElem?_eq_none (by rw [List.length_set, flat_len]; omega), List.getElem?_eq_none (by rw [flat_len]; omega)]
section
variable {w w' : World} {base P p B G n c : Nat} {th : Nat → Bool} {vr : Nat → Int} {W : Nat → Nat → Int}
theorem PgAt.put (h : PgAt w base P p B G n c th vr W) (i j : Nat) (hi : i < n) (hj : j < 32) (x : Int) : PgAt (w.setCell ⟨G, i * 32 + j, none⟩ (.int .u32 x)) base P p B G n c th vr (updA W i j x) ∧ PBelow w (w.setCell ⟨G, i * 32 + j, none⟩ (.int .u32 x)) B G := by
  have hs := h.row.stored (i * 32 + j) (.int .u32 x)
  rw [flat_set W n i j x hi hj] at hs
  exact ⟨⟨Nat.lt_of_lt_of_le h.pl hs.2.size, h.pb, (World.cell?_of_block (a := ⟨P, 0, none⟩) (hs.2.block P h.pl (fun e => h.n2 (by injection e)))).trans h.f0, (World.cell?_of_block (a := ⟨P, 1, none⟩) (hs.2.block P h.pl (fun e => h.n2 (by injection e)))).trans h.f1, h.ar.kept hs.2 (Ne.symm h.n4) (Ne.symm h.n3), hs.1, h.n1, h.n2, h.n3, h.n4⟩, PBelow.of hs.2 (.inr rfl)⟩
theorem PgAt.kept {F : Nat} (h : PgAt w base P p B G n c th vr W) (hg : w.grownBy w' (some F)) (h1 : F ≠ P) (h2 : F ≠ p) (h3 : F ≠ B) (h4 : F ≠ G) : PgAt w' base P p B G n c th vr W :=
  ⟨Nat.lt_of_lt_of_le h.pl hg.size, h.pb, (World.cell?_of_block (a := ⟨P, 0, none⟩) (hg.block P h.pl (fun e => h1 (by injection e with e; exact e.symm)))).trans h.f0, (World.cell?_of_block (a := ⟨P, 1, none⟩) (hg.block P h.pl (fun e => h1 (by injection e with e; exact e.symm)))).trans h.f1, h.ar.kept hg (Ne.symm h2) (Ne.symm h3), h.row.kept hg (.inr (fun e => h4 (by simpa [Value.ownBlock] using e.symm))), h.n1, h.n2, h.n3, h.n4⟩
end
theorem pwrite_is {base P p B G n c : Nat} {th : Nat → Bool} {vr : Nat → Int} {W : Nat → Nat → Int} (k at_ : Nat) (hk : k < n) (ha : at_ < 32) (ht : Hid (th k = true)) (x : Int) (w : World) (h : PgAt w base P p B G n c th vr W) :
    Calls Tryd.prog 65 #[.pointer (some ⟨P, 0, none⟩), .int .i64 k, .int .i64 at_, .int .u32 x] w fun e w' => e = .returned (.bool true) ∧ PgAt w' base P p B G n c th vr (updA W k at_ x) ∧ PBelow w w' B G := by
  have H := Lib.hid h
  have H2 := Lib.hid (h.put k at_ hk ha x)
  have f1 := h.f1
  have c1 := h.word k at_ hk ha
  have z1 := h.row.frozenAt (k * 32 + at_)
  have a0 : (0 : Int) ≤ at_ := by omega
  have a1 : (at_ : Int) < 32 := by omega
  have k0 : (0 : Int) ≤ k := by omega
  have k1 : (k : Int) < n := by omega
  clear h
  go_enter Tryd.func65, Tryd.ntmps65
  go_wp2_with (first | (go_at_call 76; (with_reducible refine (phas_is k at_ hk ha ht _ H.out).mono ?_); rintro e w1 ⟨rfl, rfl⟩))
  go_ret
  exact ⟨rfl, H2.out⟩
set_option maxRecDepth 100000 in
theorem uclone_is (g o c n : Nat) (xs : List Int) (hn : Hid (xs.length = n)) (h0 : 0 < n) (hm : n ≤ 1000) (w : World) (hx : ∀ j, j < n → w.cell? (Addr.add ⟨g, o, none⟩ j) = some (.int .u32 (xs.getD j 0))) (hg : g < w.heap.size) :
    Calls Tryd.prog 95 #[.slice (some ⟨g, o, none⟩) n c] w fun e w' => ∃ g' c', e = .returned (.slice (some ⟨g', 0, none⟩) n c') ∧ w'.ownsRow w.heap.size 23 1 (.slice (some ⟨g', 0, none⟩) n c') n (xs.map (Value.int .u32)) ∧ Below w.heap.size w w' := by
  obtain ⟨i0, hi, hz0, hz1, hz2⟩ := info_parts infoU
  have HI := Lib.hid (⟨hi, hz0, hz1, hz2⟩ : Tryd.prog.info? 23 = some i0 ∧ i0.zero = some (.int .u32 0) ∧ i0.size = 1 ∧ i0.bytes = 4)
  have HX := Lib.hid hx
  clear hi hz0 hz1 hz2 hx
  have hq := fun W : World => Lib.run_eql_slice_nil W 35 23 (some ⟨g, o, none⟩) n c 0 0 Tryd.underlying35
  go_enter Tryd.func95, Tryd.ntmps95
  have HOwn : Hid ((w.alloc (.cells #[] 23)).ownsRow w.heap.size 23 1 (.slice (some ⟨w.heap.size, 0, none⟩) 0 0) 0 []) := Lib.hid ⟨rfl, .inr ⟨w.heap.size, 0, #[], rfl, Nat.le_refl _, heap_alloc_new _ _, by decide, by decide, by rfl, by rfl⟩⟩
  go_wp2_with (first | (at_builtin; refine wpList_append_own _ rfl _ _ 35 rfl w.heap.size 23 i0 (.int .u32 0) 1 4 Tryd.underlying35 HI.out.1 HI.out.2.1 HI.out.2.2.1 HI.out.2.2.2 rfl (by decide) _ _ _ rfl HOwn.out ⟨g, o, none⟩ n c (xs.map (Value.int .u32)) rfl ?c0 ?c1 ?c2 ?c3 ?c4 ?c5 ?_))
  case c0 => rw [List.length_map, hn.out]; omega
  case c1 =>
    intro j u hj
    have hjn : j < xs.length := by
      rcases Nat.lt_or_ge j xs.length with h' | h'
      · exact h'
      · rw [List.getElem?_eq_none (by rw [List.length_map]; omega)] at hj; cases hj
    have := HX.out j (by rw [← hn.out]; exact hjn)
    rw [World.cell?_alloc_lt w _ _ (by rw [add_block']; exact hg), this]
    simp [hjn] at hj
    simp [List.getD, hjn, hj]
  case c2 =>
    intro v hv
    obtain ⟨x, _, rfl⟩ := List.mem_map.1 hv
    rfl
  case c3 => unfold maxLen; omega
  case c4 => omega
  case c5 => simp
  intro v' w1 hown hgrow hne
  have HO := Lib.hid hown
  have HB : Hid (Below w.heap.size w w1) := Lib.hid (((Below.refl _ _).alloc (Nat.le_refl _) _ : Below w.heap.size w (w.alloc (.cells #[] 23))).grown hgrow (by simp) (fun k hk => by simp [Value.ownBlock] at hk; omega))
  clear hown hgrow hne
  go_wp2_with fail
  go_ret
  rcases HO.out.2 with ⟨hv, h1⟩ | ⟨g', c', cur, rfl, _⟩
  · omega
  · exact ⟨g', c', rfl, HO.out, HB.out⟩
theorem pwords_is {base P p B G n c : Nat} {th : Nat → Bool} {vr : Nat → Int} {W : Nat → Nat → Int} (k : Nat) (hk : k < n) (ht : Hid (th k = true)) (w : World) (h : PgAt w base P p B G n c th vr W) :
    Calls Tryd.prog 71 #[.pointer (some ⟨P, 0, none⟩), .int .i64 k] w fun e w' => ∃ g' c', e = .returned (.slice (some ⟨g', 0, none⟩) 32 c') ∧ w'.ownsRow w.heap.size 23 1 (.slice (some ⟨g', 0, none⟩) 32 c') 32 (((List.range 32).map fun j => W k j).map (Value.int .u32)) ∧ Below w.heap.size w w' := by
  have H := Lib.hid h
  have f0 := h.f0
  have f1 := h.f1
  have k0 : (0 : Int) ≤ k := by omega
  have k1 : (k : Int) < n := by omega
  clear h
  go_enter Tryd.func71, Tryd.ntmps71
  go_wp2_with (first
    | (go_at_call 66; (with_reducible refine (athere_in k hk true ht _ H.out.ar).mono ?_); rintro e w1 ⟨rfl, rfl⟩)
    | (go_at_call 95; (with_reducible refine (uclone_is G (k * 32) 32 32 ((List.range 32).map fun j => W k j) (Lib.hid (by simp)) (by decide) (by decide) _ (fun j hj => by rw [show Addr.add ⟨G, k * 32, none⟩ j = ⟨G, k * 32 + j, none⟩ by (unfold Addr.add; split <;> simp_all), H.out.word k j hk hj]; simp [List.getD, hj]) (H.out.row.lt G rfl).2).mono ?_); rintro e w2 ⟨g', c', rfl, hr, hb⟩; have HR := Lib.hid hr; have HB := Lib.hid hb; clear hr hb))
  go_ret
  exact ⟨g', c', rfl, HR.out, HB.out⟩
end Go.Proofs.YtkhgnmgcdgjncaaDoor
