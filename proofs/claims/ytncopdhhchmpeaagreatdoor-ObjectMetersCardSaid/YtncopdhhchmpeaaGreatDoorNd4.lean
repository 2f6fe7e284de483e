/-
  package node: Set, All.
-/
import Derived.Test.YtncopdhhchmpeaaGreatDoorNdB
import Derived.StillTailTactics
namespace Go.Proofs.YtncopdhhchmpeaaGreatDoor
open Go.ChangeShapes Go.WideShapes Go.ChangeAt Go.RowKit
set_option linter.unusedVariables false
set_option maxRecDepth 100000 in
theorem kclone_is (g o c n : Nat) (cs : List Value) (hn : Hid (cs.length = n * 5)) (h0 : 0 < n) (hm : n ≤ 1000) (w : World) (hx : ∀ j u, cs[j]? = some u → w.cell? (Addr.add ⟨g, o, none⟩ j) = some u) (h1 : Hid (∀ u ∈ cs, u.oneCell' = true)) (hg : g < w.heap.size) :
    Calls Tryz.prog 207 #[.slice (some ⟨g, o, none⟩) n c] w fun e w' => ∃ g' c', e = .returned (.slice (some ⟨g', 0, none⟩) n c') ∧ w'.ownsRow w.heap.size 42 5 (.slice (some ⟨g', 0, none⟩) n c') n cs ∧ Below w.heap.size w w' := by
  obtain ⟨i0, hi, hz0, hz1, hz2⟩ := info_parts infoKeyA
  have HI := Lib.hid (⟨hi, hz0, hz1, hz2⟩ : Tryz.prog.info? 42 = some i0 ∧ i0.zero = some keyZ ∧ i0.size = 5 ∧ i0.bytes = 40)
  have HX := Lib.hid hx
  clear hi hz0 hz1 hz2 hx
  have hq := fun W : World => Lib.run_eql_slice_nil W 73 42 (some ⟨g, o, none⟩) n c 0 0 Tryz.underlying73
  go_enter Tryz.func207, Tryz.ntmps207
  have HOwn : Hid ((w.alloc (.cells #[] 42)).ownsRow w.heap.size 42 5 (.slice (some ⟨w.heap.size, 0, none⟩) 0 0) 0 []) := Lib.hid ⟨rfl, .inr ⟨w.heap.size, 0, #[], rfl, Nat.le_refl _, heap_alloc_new _ _, by decide, by decide, by rfl, by rfl⟩⟩
  go_wp2_with (first | (at_builtin; refine wpList_append_own _ rfl _ _ 73 rfl w.heap.size 42 i0 keyZ 5 40 Tryz.underlying73 HI.out.1 HI.out.2.1 HI.out.2.2.1 HI.out.2.2.2 rfl (by decide) _ _ _ rfl HOwn.out ⟨g, o, none⟩ n c cs rfl ?c0 ?c1 ?c2 ?c3 ?c4 ?c5 ?_))
  case c0 => exact hn.out
  case c1 =>
    intro j u hj
    rw [World.cell?_alloc_lt w _ _ (by rw [add_block']; exact hg)]
    exact HX.out j u hj
  case c2 => exact h1.out
  case c3 => unfold maxLen; omega
  case c4 => omega
  case c5 => simp
  intro v' w1 hown hgrow hne
  have HO := Lib.hid hown
  have HB : Hid (Below w.heap.size w w1) := Lib.hid (((Below.refl _ _).alloc (Nat.le_refl _) _ : Below w.heap.size w (w.alloc (.cells #[] 42))).grown hgrow (by simp) (fun k hk => by simp [Value.ownBlock] at hk; omega))
  clear hown hgrow hne
  go_wp2_with fail
  go_ret
  rcases HO.out.2 with ⟨hv, h1⟩ | ⟨g', c', cur, rfl, _⟩
  · omega
  · exact ⟨g', c', rfl, HO.out, HB.out⟩
/-- A node's cells. -/
def ndc (f : Nat → Value) : List Value := (List.range 80).map f
theorem ndc_len (f : Nat → Value) : (ndc f).length = 80 := by simp [ndc]
set_option maxRecDepth 100000 in
set_option maxHeartbeats 1000000 in
theorem nset_ok {base P p B G n c : Nat} {th : Nat → Bool} {vr_ : Nat → Int} {W : Nat → Nat → Value} (vs vr : Value) (k s : Nat) (hk : k < n) (hs : s < 16) (ht : Hid (th k = true)) (y0 y1 y2 y3 y4 : Int) (hy : Hid (rightB y0 y1 y2 y3 y4 = true)) (w : World) (hE : ErrsAt vs vr w) (h : NdAt w base P p B G n c th vr_ W) (hcell : Hid (∀ j, j < 80 → (W k j).oneCell' = true)) :
    Calls Tryz.prog 199 #[.pointer (some ⟨P, 0, none⟩), .int .i64 k, .int .i64 s, (Value.agg #[.int .i64 y0, .int .i64 y1, .int .i64 y2, .int .i64 y3, .int .u32 y4])] w fun e w' => e = .returned .nilIface ∧ NdAt w' base P p B G n c th vr_ (updV W k (s * 5) (k5 y0 y1 y2 y3 y4)) ∧ PBelow w w' B G := by
  have H := Lib.hid h
  have HE := Lib.hid hE
  have hlP := h.pl
  have up : ∀ (X : Obj) (b o : Nat) (v : Value), b < w.heap.size → w.cell? ⟨b, o, none⟩ = some v → (w.alloc X).cell? ⟨b, o, none⟩ = some v := fun X b o v hb hv => (World.cell?_alloc_lt w X ⟨b, o, none⟩ hb).trans hv
  have f0 : ∀ X, (w.alloc X).cell? ⟨P, 0, none⟩ = _ := fun X => up X P 0 _ hlP h.f0
  have a0 : (0 : Int) ≤ s := by omega
  have a1 : (s : Int) < 16 := by omega
  have k0 : (0 : Int) ≤ k := by omega
  have k1 : (k : Int) < n := by omega
  have HSl : Hid (∀ u : World, Calls Tryz.prog 198 #[.int .i64 s] u fun e w' => e = .returned (.bool true) ∧ u = w') := Lib.hid (fun u => by
    go_enter Tryz.func198, Tryz.ntmps198
    go_wp2
    go_ret
    exact ⟨rfl, rfl⟩)
  clear h hE up hlP
  go_enter Tryz.func199, Tryz.ntmps199
  go_wp2_with (first
    | (go_at_call 63; (with_reducible refine (athere_in k hk true ht _ (H.out.below ((Below.refl _ _).alloc (Nat.le_refl _) _)).ar).mono ?_); rintro e w1 ⟨rfl, rfl⟩)
    | (go_at_call 198; (with_reducible refine (HSl.out _).mono ?_); rintro e w1 ⟨rfl, rfl⟩)
    | (go_at_call 70; (with_reducible refine (nvalid_ok y0 y1 y2 y3 y4 hy vs vr _ (HE.out.below ((Below.refl _ _).alloc (Nat.le_refl _) _))).mono ?_); rintro e w1 ⟨rfl, hb⟩; have HB := Lib.hid hb; clear hb f0))
  have HD : Hid (Below w.heap.size w w1) := Lib.hid (((Below.refl _ _).alloc (Nat.le_refl _) _ : Below w.heap.size w _).trans (HB.out.mono (by simp)))
  have H1 := Lib.hid (H.out.below HD.out)
  have HS2 := Lib.hid (H1.out.cells k (s * 5) hk (k5 y0 y1 y2 y3 y4) (by simp [k5]; omega))
  have f1 := H1.out.f1
  have c0 := H1.out.cell k (s * 5) hk (by omega)
  have c1 := H1.out.cell k (s * 5 + 1) hk (by omega)
  have c2 := H1.out.cell k (s * 5 + 2) hk (by omega)
  have c3 := H1.out.cell k (s * 5 + 3) hk (by omega)
  have c4 := H1.out.cell k (s * 5 + 4) hk (by omega)
  rw [← Nat.add_assoc] at c1 c2 c3 c4
  have z0 := H1.out.row.frozenAt (k * 80 + s * 5)
  have z1 := H1.out.row.frozenAt (k * 80 + s * 5 + 1)
  have z2 := H1.out.row.frozenAt (k * 80 + s * 5 + 2)
  have z3 := H1.out.row.frozenAt (k * 80 + s * 5 + 3)
  have z4 := H1.out.row.frozenAt (k * 80 + s * 5 + 4)
  have b0 : w1.cell? ⟨w.heap.size, 0, none⟩ = some (.int .i64 y0) := (HB.out.cell (p := ⟨w.heap.size, 0, none⟩) (by simp)).trans (by simp)
  have b1 : w1.cell? ⟨w.heap.size, 1, none⟩ = some (.int .i64 y1) := (HB.out.cell (p := ⟨w.heap.size, 1, none⟩) (by simp)).trans (by simp)
  have b2 : w1.cell? ⟨w.heap.size, 2, none⟩ = some (.int .i64 y2) := (HB.out.cell (p := ⟨w.heap.size, 2, none⟩) (by simp)).trans (by simp)
  have b3 : w1.cell? ⟨w.heap.size, 3, none⟩ = some (.int .i64 y3) := (HB.out.cell (p := ⟨w.heap.size, 3, none⟩) (by simp)).trans (by simp)
  have b4 : w1.cell? ⟨w.heap.size, 4, none⟩ = some (.int .u32 y4) := (HB.out.cell (p := ⟨w.heap.size, 4, none⟩) (by simp)).trans (by simp)
  clear HB
  go_still_tail 9, (by kernel_rfl)
  change wpList _ _ _ _ _ w1.drew
  go_wp2_with fail
  go_ret
  exact ⟨rfl, HS2.out.1.below ((Below.refl _ _).drew), ((PBelow.of_below HD.out).trans (PBelow.of HS2.out.2 (.inr rfl))).trans (PBelow.of_below ((Below.refl _ _).drew))⟩
end Go.Proofs.YtncopdhhchmpeaaGreatDoor
