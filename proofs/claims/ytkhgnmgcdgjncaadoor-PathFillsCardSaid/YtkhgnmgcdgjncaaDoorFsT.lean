/-
  Pa7, Pa8, Pa9, PaN, PaG as one.
-/
import Derived.Test.YtkhgnmgcdgjncaaDoorP9
import Derived.Deep.CutBlock
namespace Go.Proofs.YtkhgnmgcdgjncaaDoor
open Go.ChangeShapes Go.WideShapes Go.ChangeAt Go.RowKit
set_option linter.unusedVariables false
theorem nset_at {base P p B G n c : Nat} {th : Nat → Bool} {vr_ : Nat → Int} {W : Nat → Nat → Value} (vs vr : Value) (id sl : Int) (k s : Nat) (hid : Hid (id = k)) (hsl : Hid (sl = s)) (hk : k < n) (hs : s < 16) (ht : Hid (th k = true)) (y0 y1 y2 y3 y4 : Int) (hy : Hid (rightB y0 y1 y2 y3 y4 = true)) (w : World) (hE : ErrsAt vs vr w) (h : NdAt w base P p B G n c th vr_ W) (hcell : Hid (∀ j, j < 80 → (W k j).oneCell' = true)) :
    Calls Tryd.prog 43 #[.pointer (some ⟨P, 0, none⟩), .int .i64 id, .int .i64 sl, (Value.agg #[.int .i64 y0, .int .i64 y1, .int .i64 y2, .int .i64 y3, .int .u32 y4])] w fun e w' => e = .returned .nilIface ∧ NdAt w' base P p B G n c th vr_ (updV W k (s * 5) (k5 y0 y1 y2 y3 y4)) ∧ PBelow w w' B G := by
  rw [hid.out, hsl.out]
  exact nset_ok vs vr k s hk hs ht y0 y1 y2 y3 y4 hy w hE h hcell
theorem KeyC.set2 {w : World} {b : Nat} {k0 k1 k2 k3 k4 : Int} (h : KeyC w b k0 k1 k2 k3 k4) (z : Int) : KeyC (w.setCell ⟨b, 2, none⟩ (.int .i64 z)) b k0 k1 z k3 k4 := by
  refine ⟨by simpa using h.lt, ?_, ?_, ?_, ?_, ?_, fun j => by simpa using h.fr j⟩
  · rw [World.cell?_setCell_other _ _ _ _ (by simp)]; exact h.c0
  · rw [World.cell?_setCell_other _ _ _ _ (by simp)]; exact h.c1
  · exact World.cell?_setCell_same _ _ _ h.c2
  · rw [World.cell?_setCell_other _ _ _ _ (by simp)]; exact h.c3
  · rw [World.cell?_setCell_other _ _ _ _ (by simp)]; exact h.c4
/-- Node i of some: each slot holds a key. -/
def All16 (f : Nat → Value) : Prop := ∀ j, j < 16 → ∃ y0 y1 y2 y3 y4, KAt f j y0 y1 y2 y3 y4
theorem All16.one {f : Nat → Value} (h : All16 f) : ∀ b, b < 80 → (f b).oneCell' = true := KAt.one h
theorem All16.set {W : Nat → Nat → Value} {i : Nat} (h : All16 (W i)) (k s : Nat) (y0 y1 y2 y3 y4 : Int) : All16 (updV W k (s * 5) (k5 y0 y1 y2 y3 y4) i) := fun j hj => by
  by_cases e : i = k ∧ j = s
  · obtain ⟨rfl, rfl⟩ := e
    exact ⟨_, _, _, _, _, updV_key W i j y0 y1 y2 y3 y4⟩
  · obtain ⟨x0, x1, x2, x3, x4, hx⟩ := h j hj
    exact ⟨x0, x1, x2, x3, x4, updV_rest W k s i j y0 y1 y2 y3 y4 e hx⟩
theorem All16.fresh (W : Nat → Nat → Value) (i : Nat) (kk : Nat → Nat → Int) : All16 (freshV W i (kcs kk 0) i) := fun j hj => ⟨_, _, _, _, _, freshV_nokey W i kk 0 j (Nat.zero_le _) hj⟩
theorem All16.rest {W : Nat → Nat → Value} {a : Nat} (h : All16 (W a)) (i : Nat) (xs : List Value) (hne : a ≠ i) : All16 (freshV W i xs a) := fun j hj => by
  obtain ⟨x0, x1, x2, x3, x4, hx⟩ := h j hj
  exact ⟨x0, x1, x2, x3, x4, freshV_rest W i xs a j hne hx⟩
theorem fit64 {a : Int} (h : (Lit.int .i64 a).wf = true) : -9223372036854775808 ≤ a ∧ a ≤ 9223372036854775807 := by simpa [Lit.wf, IntKind.min, IntKind.max, IntKind.signed, IntKind.bits] using h
theorem fit32 {a : Int} (h : (Lit.int .u32 a).wf = true) : 0 ≤ a ∧ a ≤ 4294967295 := by simpa [Lit.wf, IntKind.min, IntKind.max, IntKind.signed, IntKind.bits] using h
theorem way_split (p : Nat) (hp : 0 < p) (m : Nat) (hm : m < 16 * p) : ∃ q s : Nat, q < 16 ∧ s < p ∧ m = q * p + s :=
  ⟨m / p, m % p, by rw [Nat.div_lt_iff_lt_mul hp]; exact hm, Nat.mod_lt _ hp, by rw [Nat.mul_comm]; exact (Nat.div_add_mod m p).symm⟩
/-- One step of a way: node i of height h, by slot q. -/
theorem way_at {a b : Shp} {th : Nat → Bool} {vr_ : Nat → Int} {W : Nat → Nat → Value} {th2 : Nat → Bool} {vr2 : Nat → Int} {k1 k2 k3 k4 below addr : Int} {ro : Bool} {ids : List Int} {pg at_ : Int} {r : Bool} {f : Int} (h i q s : Nat) (y0 y1 y2 y3 y4 : Int) (hk : k4 = h) (h1 : 1 ≤ h) (h4 : h ≤ 4) (ha : addr = ((q * (2 * 16 ^ h) + s : Nat) : Int)) (hd : (h : Int) < below) (hi : k1 = i) (hn : i < a.n) (ht : th i = true) (hv : vr_ i = k2) (hq : q < 16) (hr : s < 2 * 16 ^ h) (hy : KAt (W i) q y0 y1 y2 y3 y4) (next : Way a b th vr_ W th2 vr2 y0 y1 y2 y3 y4 h s (ro || roB k3) ids pg at_ r f) : Way a b th vr_ W th2 vr2 2 k1 k2 k3 k4 below addr ro (k1 :: ids) pg at_ r f :=
  .node h i q s (2 * 16 ^ h) _ y0 y1 y2 y3 y4 hk rfl ha rfl h1 h4 (by subst hi; simp [liveB, thereB, hn, ht, hv]) hd hi hn ht hq hr hy next
end Go.Proofs.YtkhgnmgcdgjncaaDoor
namespace Go.Proofs.YtkhgnmgcdgjncaaDoor
open Go.ChangeShapes Go.WideShapes Go.ChangeAt Go.RowKit
set_option linter.unusedVariables false
set_option linter.unusedSimpArgs false
theorem infoInt8 : (Tryd.prog.info? 3).map (fun i => (i.zero, i.size, i.bytes)) = some (some (.int .i64 0), 1, 8) := by kernel_rfl
/-- A slice of numbers, of one's own, in a variable that is caught. -/
structure IdAt (W0 w : World) (ib : Nat) (v : Value) (l : List Int) : Prop where
  bel : Below W0.heap.size W0 w
  ib0 : W0.heap.size ≤ ib
  ibl : ib < w.heap.size
  c : w.cell? ⟨ib, 0, none⟩ = some v
  fr : w.frozen? ⟨ib, 0, none⟩ = false
  row : w.ownsRow W0.heap.size 3 1 v l.length (l.map (Value.int .i64))
  ne : ∀ g, v.ownBlock = some g → g ≠ ib
theorem IdAt.same {W0 w w' : World} {ib : Nat} {v : Value} {l : List Int} (h : IdAt W0 w ib v l) (hb : Below W0.heap.size W0 w') (hs : w.heap.size ≤ w'.heap.size) (h1 : w'.heap[ib]? = w.heap[ib]?) (h2 : ∀ g, v.ownBlock = some g → w'.heap[g]? = w.heap[g]?) : IdAt W0 w' ib v l :=
  ⟨hb, h.ib0, Nat.lt_of_lt_of_le h.ibl hs, (World.cell?_of_block (a := ⟨ib, 0, none⟩) h1).trans h.c, (World.frozen?_of_block (a := ⟨ib, 0, none⟩) h1).trans h.fr, row_same' h.row h2, h.ne⟩
theorem IdAt.below {W0 w w' : World} {ib : Nat} {v : Value} {l : List Int} (h : IdAt W0 w ib v l) (hb : Below w.heap.size w w') : IdAt W0 w' ib v l :=
  h.same (h.bel.trans (hb.mono h.bel.size)) hb.size (hb.block ib h.ibl) (fun g hg => hb.block g (h.row.lt g hg).2)
theorem IdAt.put {W0 w : World} {ib : Nat} {v : Value} {l : List Int} (h : IdAt W0 w ib v l) (g j : Nat) (h1 : ib ≠ g) (h2 : v.ownBlock ≠ some g) (h0 : W0.heap.size ≤ g) (u : Value) : IdAt W0 (w.setCell ⟨g, j, none⟩ u) ib v l :=
  h.same (h.bel.setCell h0 _) (by simp) (set_heap _ _ _ _ _ h1) (fun k hk => set_heap _ _ _ _ _ (fun e => h2 (by rw [hk, e])))
theorem IdAt.put3 {W0 w : World} {ib : Nat} {v : Value} {l : List Int} (h : IdAt W0 w ib v l) (g : Nat) (h1 : ib ≠ g) (h2 : v.ownBlock ≠ some g) (h0 : W0.heap.size ≤ g) (u0 u1 u2 : Value) : IdAt W0 (((w.setCell ⟨g, 0, none⟩ u0).setCell ⟨g, 1, none⟩ u1).setCell ⟨g, 2, none⟩ u2) ib v l :=
  ((h.put g 0 h1 h2 h0 u0).put g 1 h1 h2 h0 u1).put g 2 h1 h2 h0 u2
theorem IdAt.put5 {W0 w : World} {ib : Nat} {v : Value} {l : List Int} (h : IdAt W0 w ib v l) (g : Nat) (h1 : ib ≠ g) (h2 : v.ownBlock ≠ some g) (h0 : W0.heap.size ≤ g) (y0 y1 y2 y3 y4 : Int) : IdAt W0 (((((w.setCell ⟨g, 0, none⟩ (.int .i64 y0)).setCell ⟨g, 1, none⟩ (.int .i64 y1)).setCell ⟨g, 2, none⟩ (.int .i64 y2)).setCell ⟨g, 3, none⟩ (.int .i64 y3)).setCell ⟨g, 4, none⟩ (.int .u32 y4)) ib v l :=
  ((((h.put g 0 h1 h2 h0 _).put g 1 h1 h2 h0 _).put g 2 h1 h2 h0 _).put g 3 h1 h2 h0 _).put g 4 h1 h2 h0 _
/-- The row lies in no box of the walk. -/
def OwnFar (v : Value) (n : Nat) : Prop := v.ownBlock ≠ some (n + 1 + 1) ∧ v.ownBlock ≠ some (n + 1)
theorem ownFar_nil (n : Nat) : OwnFar (.slice none 0 0) n := ⟨by simp [Value.ownBlock], by simp [Value.ownBlock]⟩
theorem OwnFar.next {v v' : Value} {n m : Nat} (h : OwnFar v n) (hm : n + 1 + 1 < m) (hv : v'.ownBlock = v.ownBlock ∨ ∃ g, m ≤ g ∧ v'.ownBlock = some g) : OwnFar v' n := by
  rcases hv with e | ⟨g, hg, e⟩
  · unfold OwnFar; rw [e]; exact h
  · unfold OwnFar; rw [e]; exact ⟨fun x => by injection x with x; omega, fun x => by injection x with x; omega⟩
theorem PlC.same {w w' : World} {b : Nat} {x y : Int} {r : Bool} (h : PlC w b x y r) (hs : w.heap.size ≤ w'.heap.size) (e : w'.heap[b]? = w.heap[b]?) : PlC w' b x y r :=
  ⟨Nat.lt_of_lt_of_le h.lt hs, (World.cell?_of_block (a := ⟨b, 0, none⟩) e).trans h.c0, (World.cell?_of_block (a := ⟨b, 1, none⟩) e).trans h.c1, (World.cell?_of_block (a := ⟨b, 2, none⟩) e).trans h.c2, fun j => (World.frozen?_of_block (a := ⟨b, j, none⟩) e).trans (h.fr j)⟩
theorem one_new (w : World) (x : Int) (t : TypeId) : ∀ j u, [Value.int .i64 x][j]? = some u → (w.alloc (.cells #[.int .i64 x] t (0, 0))).cell? (Addr.add ⟨w.heap.size, 0, none⟩ j) = some u := by
  intro j u hj
  match j, hj with
  | 0, hj => simp at hj; subst hj; simp [Addr.add]
set_option maxRecDepth 100000 in
theorem push_is {W0 : World} {ib : Nat} {v : Value} {l : List Int} (x : Int) (hl : Hid (l.length + 1 ≤ 1000)) (w : World) (h : IdAt W0 w ib v l) :
    Calls Tryd.prog 81 #[.int .i64 x, .pointer (some ⟨ib, 0, none⟩)] w fun e w' => e = .returned (.tuple #[]) ∧ ∃ v', IdAt W0 w' ib v' (l ++ [x]) ∧ (w.heap.size ≤ w'.heap.size ∧ ∀ k, k < w.heap.size → k ≠ ib → v.ownBlock ≠ some k → w'.heap[k]? = w.heap[k]?) ∧ (v'.ownBlock = v.ownBlock ∨ ∃ g, w.heap.size ≤ g ∧ v'.ownBlock = some g) := by
  obtain ⟨i0, hi, hz0, hz1, hz2⟩ := info_parts infoInt8
  have HI := Lib.hid (⟨hi, hz0, hz1, hz2⟩ : Tryd.prog.info? 3 = some i0 ∧ i0.zero = some (.int .i64 0) ∧ i0.size = 1 ∧ i0.bytes = 8)
  have H := Lib.hid h
  have c0 := h.c
  have c1 : ∀ o, (w.alloc o).cell? ⟨ib, 0, none⟩ = some v := fun o => (h.below ((Below.refl _ _).alloc (Nat.le_refl _) _)).c
  obtain ⟨n, Hn⟩ : ∃ n, Hid (l.length = n) := ⟨_, Lib.hid rfl⟩
  have HRow : Hid (w.ownsRow W0.heap.size 3 1 v n (l.map (Value.int .i64))) := Lib.hid (by rw [← Hn.out]; exact h.row)
  have HM : Hid (n + 1 ≤ maxLen ∧ (n + 1) * 8 ≤ 140737488355328) := Lib.hid (by have := hl.out; have := Hn.out; unfold maxLen; omega)
  clear h hi hz0 hz1 hz2
  go_enter Tryd.func81, Tryd.ntmps81
  go_wp2_with (first
    | (at_builtin; refine wpList_append_own_at _ rfl _ _ 73 rfl W0.heap.size 3 i0 (.int .i64 0) 1 8 Tryd.underlying73 HI.out.1 HI.out.2.1 HI.out.2.2.1 HI.out.2.2.2 rfl (by decide) v n _ rfl (HRow.out.alloc _) ⟨w.heap.size, 0, none⟩ 1 1 [.int .i64 x] rfl rfl (one_new _ _ _) (by intro u hu; simp at hu; subst hu; rfl) HM.out.1 HM.out.2 (by have := H.out.bel.size; simp; omega) ?_; intro v' w9 hown hgrow hnil hloc; obtain ⟨va, vc, rfl⟩ := own_shape' hown; have HOW := Lib.hid hown; have HGR := Lib.hid hgrow; have HLC : Hid ((Value.slice va (n + 1) vc).ownBlock = v.ownBlock ∨ _) := Lib.hid hloc; have hib := (World.cell?_of_block (a := ⟨ib, 0, none⟩) (HGR.out.block ib (by have := H.out.ibl; simp; omega) (fun e => H.out.ne ib e.symm rfl))).trans (H.out.below ((Below.refl _ _).alloc (Nat.le_refl _) _)).c; have hif := (World.frozen?_of_block (a := ⟨ib, 0, none⟩) (HGR.out.block ib (by have := H.out.ibl; simp; omega) (fun e => H.out.ne ib e.symm rfl))).trans (H.out.below ((Below.refl _ _).alloc (Nat.le_refl _) _)).fr; clear hown hgrow hnil hloc))
  go_end0
  have hs1 : w.heap.size + 1 ≤ w9.heap.size := by have := HGR.out.size; simpa using this
  obtain ⟨v', hv0⟩ : ∃ v', v' = Value.slice va (n + 1) vc := ⟨_, rfl⟩
  rw [← hv0] at HOW HLC ⊢
  have hv' : ∀ g, v'.ownBlock = some g → g ≠ ib := by
    intro g hg
    rcases HLC.out with e | e
    · exact H.out.ne g (by rw [← e]; exact hg)
    · rw [e] at hg; injection hg with hg; have := H.out.ibl; simp at hg; omega
  have hbk : ∀ k, k < w.heap.size → k ≠ ib → v.ownBlock ≠ some k → (w9.setCell ⟨ib, 0, none⟩ v').heap[k]? = w.heap[k]? := fun k hk hki hkv => by
    rw [set_heap _ _ _ _ _ hki, HGR.out.block k (by simp; omega) (fun e => hkv e.symm)]
    exact ((Below.refl _ _).alloc (Nat.le_refl _) _ : Below w.heap.size w (w.alloc _)).block k hk
  refine ⟨rfl, v', ⟨?_, H.out.ib0, ?_, ?_, ?_, ?_, hv'⟩, ⟨by simp; omega, hbk⟩, ?_⟩
  · exact ((H.out.bel.alloc H.out.bel.size _).grown HGR.out (by have := H.out.bel.size; simp; omega) (fun g hg => (HRow.out.lt g hg).1)).setCell H.out.ib0 _
  · have := H.out.ibl; simp; omega
  · exact World.cell?_setCell_same _ _ _ hib
  · simpa using hif
  · have hr := HOW.out
    rw [← Hn.out] at hr
    have e : (l ++ [x]).length = l.length + 1 := by simp
    rw [e, List.map_append]
    exact row_same' hr (fun g hg => set_heap _ _ _ _ _ (hv' g hg))
  · rcases HLC.out with e | e
    · exact .inl e
    · exact .inr ⟨w.heap.size + 1, by omega, by rw [e]; simp⟩
end Go.Proofs.YtkhgnmgcdgjncaaDoor
namespace Go.Proofs.YtkhgnmgcdgjncaaDoor
open Go.ChangeShapes Go.WideShapes Go.ChangeAt Go.RowKit
set_option linter.unusedVariables false
set_option linter.unusedSimpArgs false
set_option maxRecDepth 100000 in
set_option maxHeartbeats 4000000 in
theorem pwalk1_is {S : Nat} {a b : Shp} {th : Nat → Bool} {vr_ : Nat → Int} {W : Nat → Nat → Value} {th2 : Nat → Bool} {vr2 : Nat → Int} {W2 : Nat → Nat → Int} (k0 k1 k2 k3 k4 addr : Int) (L : List Int) (hL : Hid (L.length ≤ 100)) (pg at_ : Int) (r : Bool) (f : Int) (hw : Hid (Way a b th vr_ W th2 vr2 k0 k1 k2 k3 k4 5 addr false L pg at_ r f)) (W0 w : World) (h : (StAt W0 S a b th vr_ W th2 vr2 W2)) (ib : Nat) (hI : IdAt W0 w ib (.slice none 0 0) []) :
    Calls Tryd.prog 79 #[.pointer (some ⟨S, 0, none⟩), (Value.agg #[.int .i64 k0, .int .i64 k1, .int .i64 k2, .int .i64 k3, .int .u32 k4]), .int .u32 addr, .func (.func 81) #[] #[.pointer (some ⟨ib, 0, none⟩)]] w fun e w' => e = .returned (.tuple #[.agg #[.int .i64 pg, .int .i64 at_, .bool r], .int .i64 f]) ∧ ∃ v, IdAt W0 w' ib v L := by
  have H := Lib.hid h
  have HI := Lib.hid hI
  have HW0 := Lib.hid hI.bel.size
  have HIB := Lib.hid hI.ibl
  clear h hI
  go_enter Tryd.func79, Tryd.ntmps79
  go_wp2_with fail
  go_loopw [2, 11, 12] (fun vA vB vR wr => ∃ k0 k1 k2 k3 k4 below addr ro ids v l, vA = .int .u32 addr ∧ vB = .int .u32 below ∧ vR = .bool ro ∧ Way a b th vr_ W th2 vr2 k0 k1 k2 k3 k4 below addr ro ids pg at_ r f ∧ KeyC wr (w.heap.size + 1 + 1) k0 k1 k2 k3 k4 ∧ PlC wr (w.heap.size + 1) 0 0 false ∧ Below W0.heap.size W0 wr ∧ IdAt W0 wr ib v l ∧ l ++ ids = L ∧ OwnFar v w.heap.size) (fun _ vB _ _ => (intOf vB).toNat)
  case atStart =>
    refine ⟨k0, k1, k2, k3, k4, 5, addr, false, L, _, [], rfl, rfl, rfl, hw.out, ?_, ?_, ?_, ?_, rfl, ownFar_nil _⟩
    · exact KeyC.new3 _ _ _ _ _ _ _ _ _
    · exact PlC.new2 _ _ _ _ _ _ _
    · exact ((HI.out.bel.alloc HW0.out _).alloc (by have := HW0.out; simp; omega) _).alloc (by have := HW0.out; simp; omega) _
    · exact ((HI.out.below ((Below.refl _ _).alloc (Nat.le_refl _) _)).below ((Below.refl _ _).alloc (Nat.le_refl _) _)).below ((Below.refl _ _).alloc (Nat.le_refl _) _)
  case round =>
    obtain ⟨k0, k1, k2, k3, k4, below, addr, ro, ids, v, l, rfl, rfl, rfl, hW, hK, hP, hB, hI, hl, hO⟩ := hrel
    have HIr := Lib.hid hI
    have HLr := Lib.hid hl
    have HOr := Lib.hid hO
    clear hI hl hO
    have q0 := hK.c0
    have q1 := hK.c1
    have q2 := hK.c2
    have q3 := hK.c3
    have q4 := hK.c4
    have HK := Lib.hid hK
    have HP := Lib.hid hP
    have HB := Lib.hid hB
    have H1 := Lib.hid (H.out.below hB)
    clear hK hP hB
    cases hW with
    | fault s t l f h0 hs hl hz hf =>
      have HS := Lib.hid hs
      have HL := Lib.hid hl
      have HZ := Lib.hid hz
      clear hs hl hz
      go_wp2_with (first
        | (go_at_call 101; (with_reducible refine (penter_at k0 k1 k2 k3 k4 below addr h0 s t l HS HL 0 f HZ _ H1.out).mono ?_); rintro e w1 ⟨rfl, hb⟩; have HB1 := Lib.hid (HB.out.trans (hb.mono HB.out.size)); have HI1 := Lib.hid (HIr.out.below hb); have hP1 := HP.out.below hb; have HP1 := Lib.hid hP1; have p0 := hP1.c0; have p1 := hP1.c1; have p2 := hP1.c2; have pf0 := hP1.fr 0; have pf1 := hP1.fr 1; have pf2 := hP1.fr 2; clear hb hP1))
      refine bodyPost_ret (v := .tuple #[.agg #[.int .i64 0, .int .i64 0, .bool false], .int .i64 f]) (by have d := HP1.out.set 0 0 false; have d0 := d.c0; have d1 := d.c1; have d2 := d.c2; simp [results, Tryd.results79, go_sem, d0, d1, d2]) rfl ⟨rfl, ?_⟩
      exact ⟨v, by have e := HLr.out; rw [List.append_nil] at e; rw [← e]; exact HI1.out.put3 _ (by have := HIB.out; omega) HOr.out.2 (by have := HW0.out; omega) _ _ _⟩
    | page h0 ha0 hl ha =>
      have HL := Lib.hid hl
      have hwr : wrap64 at_ = at_ := by unfold wrap64; omega
      have HZ : Hid (entP 32 true true 3 k4 below at_ = (32, 0)) := Lib.hid (by unfold entP; rw [if_neg (by decide), if_neg (by omega), if_neg (by omega)])
      clear hl ha
      cases ro <;> (
        go_wp2_with (first
          | (go_at_call 101; (with_reducible refine (penter_at 3 pg k2 k3 k4 below at_ h0 32 true true (Lib.hid ⟨rfl, rfl⟩) HL 32 0 HZ _ H1.out).mono ?_); rintro e w1 ⟨rfl, hb⟩; have HB1 := Lib.hid (HB.out.trans (hb.mono HB.out.size)); have HI1 := Lib.hid (HIr.out.below hb); have hP1 := HP.out.below hb; have HP1 := Lib.hid hP1; have p0 := hP1.c0; have p1 := hP1.c1; have p2 := hP1.c2; have pf0 := hP1.fr 0; have pf1 := hP1.fr 1; have pf2 := hP1.fr 2; have hK1 := HK.out.below hb; have q0 := hK1.c0; have q1 := hK1.c1; have q2 := hK1.c2; have q3 := hK1.c3; have q4 := hK1.c4; clear hb hP1 hK1))
        first
          | (refine bodyPost_ret (v := .tuple #[.agg #[.int .i64 pg, .int .i64 at_, .bool true], .int .i64 0]) (by have d := HP1.out.set pg at_ true; have d0 := d.c0; have d1 := d.c1; have d2 := d.c2; simp [results, Tryd.results79, go_sem, d0, d1, d2]) rfl ⟨rfl, ?_⟩; exact ⟨v, by have e := HLr.out; rw [List.append_nil] at e; rw [← e]; exact HI1.out.put3 _ (by have := HIB.out; omega) HOr.out.2 (by have := HW0.out; omega) _ _ _⟩)
          | (refine bodyPost_ret (v := .tuple #[.agg #[.int .i64 pg, .int .i64 at_, .bool (bits BinOp.and IntKind.i64 k3 5 != 0)], .int .i64 0]) (by have d := HP1.out.set pg at_ (bits BinOp.and IntKind.i64 k3 5 != 0); have d0 := d.c0; have d1 := d.c1; have d2 := d.c2; simp [results, Tryd.results79, go_sem, d0, d1, d2]) rfl ⟨rfl, ?_⟩; exact ⟨v, by have e := HLr.out; rw [List.append_nil] at e; rw [← e]; exact HI1.out.put3 _ (by have := HIB.out; omega) HOr.out.2 (by have := HW0.out; omega) _ _ _⟩)
)
    | node h i q r' p ad y0 y1 y2 y3 y4 hk hp ha had h1 h4 hl hd hi hn ht hq hr hy next =>
      subst hk
      subst hi
      subst ha
      have HS : Hid (szP 2 h = ((16 * p : Nat) : Int) ∧ szB 2 h = true) := Lib.hid (way_sz h h1 h4 p hp)
      have hlt : ad < 16 * p := by rw [had]; exact way_lt q p r' hq hr
      have hp5 : p ≤ 131072 := by rw [hp]; exact way_big h h4
      have e1 : ((16 * p : Nat) : Int).tdiv 16 % 4294967296 = p := by rw [Int.tdiv_eq_ediv_of_nonneg (by omega)]; omega
      have E2 : Hid (IntKind.i64.wrap ((ad : Int) / p % 4294967296) = q) := Lib.hid (by rw [had, way_div q p r' hr, IntKind.wrap_i64]; omega)
      have E3 : Hid ((ad : Int) % p = r') := Lib.hid (by rw [had, way_mod q p r' hr])
      have e5 : ¬ p = 0 := by omega
      have E5 : Hid (IntKind.u32.wrap ((ad : Int) / p) = q) := Lib.hid (by rw [had, way_div q p r' hr, IntKind.wrap_u32]; omega)
      have E6 : Hid (IntKind.i64.wrap (q : Int) = q) := Lib.hid (by rw [IntKind.wrap_i64]; omega)
      have g0 : Hid (W i (q * 5) = .int .i64 y0) := Lib.hid hy.1
      have g1 : Hid (W i (q * 5 + 1) = .int .i64 y1) := Lib.hid hy.2.1
      have g2 : Hid (W i (q * 5 + 2) = .int .i64 y2) := Lib.hid hy.2.2.1
      have g3 : Hid (W i (q * 5 + 3) = .int .i64 y3) := Lib.hid hy.2.2.2.1
      have g4 : Hid (W i (q * 5 + 4) = .int .u32 y4) := Lib.hid hy.2.2.2.2
      have HT : Hid (th i = true) := Lib.hid ht
      have HZ : Hid (entP ((16 * p : Nat) : Int) true true 2 h below ad = (((16 * p : Nat) : Int), 0)) := Lib.hid (by unfold entP; rw [if_neg (by decide), if_neg (by omega), if_neg (by omega)])
      have HLen : Hid (l.length + 1 ≤ 1000) := Lib.hid (by have e := HLr.out; have := hL.out; rw [← e] at this; simp at this; omega)
      have HL := Lib.hid hl
      have H0 : Hid ((0 : Int) ≤ h) := Lib.hid (by omega)
      obtain ⟨sz, Hsz⟩ : ∃ sz : Int, Hid (((16 * p : Nat) : Int) = sz) := ⟨_, Lib.hid rfl⟩
      rw [Hsz.out] at HS HZ e1
      clear hl had hp hlt hy ht
      go_upto_region 5 with (first
        | (go_at_call 101; (with_reducible refine (penter_at 2 i k2 k3 h below ad H0.out _ true true HS HL _ 0 HZ _ H1.out).mono ?_); rintro e w1 ⟨rfl, hb⟩; have HB1 := Lib.hid (HB.out.trans (hb.mono HB.out.size)); have HI1 := Lib.hid (HIr.out.below hb); have HP1 := Lib.hid (HP.out.below hb); have hK1 := HK.out.below hb; have HK1 := Lib.hid hK1; have q0 := hK1.c0; have q1 := hK1.c1; have q2 := hK1.c2; have q3 := hK1.c3; have q4 := hK1.c4; have H2 := Lib.hid (H1.out.below hb); clear hb hK1))
      go_cut [12] (fun vq wx => vq = .bool (ro || roB k3) ∧ w1 = wx)
      case first =>
        cases ro <;> (go_wp2_with fail; go_meet; exact ⟨rfl, rfl⟩)
      case rest =>
        obtain ⟨rfl, rfl⟩ := hcut
        obtain ⟨rb, Hrb⟩ : ∃ rb, Hid ((ro || roB k3) = rb) := ⟨_, Lib.hid rfl⟩
        rw [Hrb.out] at next ⊢
        clear Hrb
        go_upto_region 10 with (first
          | (go_at_call 81; (with_reducible refine (push_is (i : Int) HLen _ HI1.out).mono ?_); rintro e w2 ⟨rfl, v', hI2, hkeep, hown⟩; have HI2 := Lib.hid hI2; have HKP := Lib.hid hkeep; have HOW := Lib.hid (HOr.out.next (by have := HK1.out.lt; omega) hown); clear hI2 hkeep hown))
        have HK1' := Lib.hid (HK1.out.same HKP.out.1 (HKP.out.2 _ HK1.out.lt (by have := HIB.out; omega) HOr.out.1))
        have HP1' := Lib.hid (HP1.out.same HKP.out.1 (HKP.out.2 _ HP1.out.lt (by have := HIB.out; omega) HOr.out.2))
        have H2' := Lib.hid (H.out.below HI2.out.bel)
        have HB1' := Lib.hid HI2.out.bel
        clear q0 q1 q2 q3 q4 HK1 HP1 H2 HB1 HI1
        have HK1 := HK1'
        have HP1 := HP1'
        have H2 := H2'
        have HB1 := HB1'
        have HI1 := HI2
        have q0 := HK1.out.c0
        have q1 := HK1.out.c1
        have q2 := HK1.out.c2
        have q3 := HK1.out.c3
        have q4 := HK1.out.c4
        rw [e1]
        go_cut [16, 17] (fun u o wx => ∃ bx : Nat, u = .pointer (some ⟨bx, 0, none⟩) ∧ o = .bool true ∧ Below W0.heap.size W0 wx ∧ KeyC wx bx y0 y1 y2 y3 y4 ∧ KeyC wx (w.heap.size + 1 + 1) 2 i k2 k3 h ∧ PlC wx (w.heap.size + 1) 0 0 false ∧ w.heap.size + 1 + 1 < bx ∧ IdAt W0 wx ib v' (l ++ [(i : Int)]))
        case first =>
          have hz := HB1.out.size
          have hz2 : w.heap.size + 1 + 1 < w2.heap.size := HK1.out.lt
          have hSS : Hid (∀ w', Below w2.heap.size w2 w' → World.cell? w' ⟨S, 0, none⟩ = some (.pointer (some ⟨a.P, 0, none⟩)) ∧ World.cell? w' ⟨w.heap.size + 1 + 1, 1, none⟩ = some (.int .i64 i)) := Lib.hid (fun w' hb => ⟨(H2.out.below hb).s0, (HK1.out.below hb).c1⟩)
          refine wp_region_noPanic ?_
          refine wp_region_held_drew (S := fun w' => World.cell? w' ⟨S, 0, none⟩ = some (.pointer (some ⟨a.P, 0, none⟩)) ∧ World.cell? w' ⟨w.heap.size + 1 + 1, 1, none⟩ = some (.int .i64 i)) (by kernel_rfl) ⟨(H2.out.below (Below.refl w2.heap.size w2).drew).s0, (HK1.out.below (Below.refl w2.heap.size w2).drew).c1⟩ (fun hHeld => ?_)
          refine wpAnyH_take (i := 0) (v := ?_) (by rfl) (by kernel_rfl) (by kernel_rfl) (by kernel_rfl) (fun _ _ _ h => h) (Or.inl ⟨by kernel_rfl, ?_⟩) (by assumption) ?_; rotate_left 1; (focus (intro w hSw; (try dsimp only at hSw); simp only [List.getElem_toArray, List.getElem_cons_succ, List.getElem_cons_zero]; all_goals go_simp; all_goals (try with_reducible rfl))); (try simp only [Act.put, List.getElem_toArray, List.getElem_cons_succ, List.getElem_cons_zero, List.setIfInBounds_toArray, List.set_cons_zero, List.set_cons_succ])
          refine wpAnyH_take (i := 1) (v := ?_) (by rfl) (by kernel_rfl) (by kernel_rfl) (by kernel_rfl) (fun _ _ _ h => h) (Or.inl ⟨by kernel_rfl, ?_⟩) (by assumption) ?_; rotate_left 1; (focus (intro w hSw; (try dsimp only at hSw); simp only [List.getElem_toArray, List.getElem_cons_succ, List.getElem_cons_zero]; all_goals go_simp; all_goals (try with_reducible rfl))); (try simp only [Act.put, List.getElem_toArray, List.getElem_cons_succ, List.getElem_cons_zero, List.setIfInBounds_toArray, List.set_cons_zero, List.set_cons_succ])
          refine wpAnyH_take (i := 2) (v := ?_) (by rfl) (by kernel_rfl) (by kernel_rfl) (by kernel_rfl) (fun _ _ _ h => h) (Or.inl ⟨by kernel_rfl, ?_⟩) (by assumption) ?_; rotate_left 1; (focus (intro w hSw; (try dsimp only at hSw); simp only [List.getElem_toArray, List.getElem_cons_succ, List.getElem_cons_zero]; all_goals go_simp; all_goals (try with_reducible rfl))); (try simp only [Act.put, List.getElem_toArray, List.getElem_cons_succ, List.getElem_cons_zero, List.setIfInBounds_toArray, List.set_cons_zero, List.set_cons_succ])
          refine wpAnyH_take (i := 3) (v := ?_) (by rfl) (by kernel_rfl) (by kernel_rfl) (by kernel_rfl) (fun _ _ _ h => h) (Or.inl ⟨by kernel_rfl, ?_⟩) (by assumption) ?_; rotate_left 1; (focus (intro w hSw; (try dsimp only at hSw); simp only [List.getElem_toArray, List.getElem_cons_succ, List.getElem_cons_zero]; all_goals go_simp; all_goals (try with_reducible rfl))); (try simp only [Act.put, List.getElem_toArray, List.getElem_cons_succ, List.getElem_cons_zero, List.setIfInBounds_toArray, List.set_cons_zero, List.set_cons_succ])
          refine wpAnyH_take (i := 4) (v := ?_) (by rfl) (by kernel_rfl) (by kernel_rfl) (by kernel_rfl) (fun _ _ _ h => h) (Or.inl ⟨by kernel_rfl, ?_⟩) (by assumption) ?_; rotate_left 1; (focus (intro w hSw; (try dsimp only at hSw); simp only [List.getElem_toArray, List.getElem_cons_succ, List.getElem_cons_zero]; all_goals go_simp; all_goals (try with_reducible rfl))); (try simp only [Act.put, List.getElem_toArray, List.getElem_cons_succ, List.getElem_cons_zero, List.setIfInBounds_toArray, List.set_cons_zero, List.set_cons_succ])
          refine wpAnyH_take (i := 5) (v := ?_) (by rfl) (by kernel_rfl) (by kernel_rfl) (by kernel_rfl) (fun _ _ _ h => h) (Or.inl ⟨by kernel_rfl, ?_⟩) (by assumption) ?_; rotate_left 1; (focus (intro w hSw; (try dsimp only at hSw); simp only [List.getElem_toArray, List.getElem_cons_succ, List.getElem_cons_zero]; all_goals go_simp; all_goals (try with_reducible rfl))); (try simp only [Act.put, List.getElem_toArray, List.getElem_cons_succ, List.getElem_cons_zero, List.setIfInBounds_toArray, List.set_cons_zero, List.set_cons_succ])
          refine wpAnyH_take (i := 6) (v := ?_) (by rfl) (by kernel_rfl) (by kernel_rfl) (by kernel_rfl) (fun _ _ _ h => h) (Or.inl ⟨by kernel_rfl, ?_⟩) (by assumption) ?_; rotate_left 1; (focus (intro w hSw; (try dsimp only at hSw); simp only [List.getElem_toArray, List.getElem_cons_succ, List.getElem_cons_zero]; all_goals go_simp; all_goals (try with_reducible rfl))); (try simp only [Act.put, List.getElem_toArray, List.getElem_cons_succ, List.getElem_cons_zero, List.setIfInBounds_toArray, List.set_cons_zero, List.set_cons_succ])
          refine wpAnyH_take (i := 7) (v := ?_) (by rfl) (by kernel_rfl) (by kernel_rfl) (by kernel_rfl) (fun _ _ _ h => h) (Or.inl ⟨by kernel_rfl, ?_⟩) (by assumption) ?_; rotate_left 1; (focus (intro w hSw; (try dsimp only at hSw); simp only [List.getElem_toArray, List.getElem_cons_succ, List.getElem_cons_zero]; all_goals go_simp; all_goals (try with_reducible rfl))); (try simp only [Act.put, List.getElem_toArray, List.getElem_cons_succ, List.getElem_cons_zero, List.setIfInBounds_toArray, List.set_cons_zero, List.set_cons_succ])
          refine wpAnyH_take (i := 8) (v := .int .u32 q) (by rfl) (by kernel_rfl) (by kernel_rfl) (by kernel_rfl) (fun _ _ _ h => h) (Or.inl ⟨by kernel_rfl, ?_⟩) (by assumption) ?_
          · intro w hSw
            simp only [List.getElem_toArray, List.getElem_cons_succ, List.getElem_cons_zero]
            go_simp
            first | rfl | rw [E5.out]
          simp only [Act.put, List.getElem_toArray, List.getElem_cons_succ, List.getElem_cons_zero, List.setIfInBounds_toArray, List.set_cons_zero, List.set_cons_succ]
          refine wpAnyH_take (i := 9) (v := .int .i64 q) (by rfl) (by kernel_rfl) (by kernel_rfl) (by kernel_rfl) (fun _ _ _ h => h) (Or.inl ⟨by kernel_rfl, ?_⟩) (by assumption) ?_
          · intro w hSw
            simp only [List.getElem_toArray, List.getElem_cons_succ, List.getElem_cons_zero]
            go_simp
            first | rfl | rw [E6.out]
          simp only [Act.put, List.getElem_toArray, List.getElem_cons_succ, List.getElem_cons_zero, List.setIfInBounds_toArray, List.set_cons_zero, List.set_cons_succ]
          refine wpAnyH_ready (rs := [10, 14]) (by kernel_rfl) (by simp) ?_
          refine AllReadyH.cons (by rfl) (fun K hK => ?_) (AllReadyH.cons (by rfl) (fun K hK => ?_) AllReadyH.nil)
          · skip
            rw [if_pos (by kernel_rfl)]
            simp only [List.getElem_toArray, List.getElem_cons_succ, List.getElem_cons_zero]
            go_wp2_with (first | (go_at_call 40; (with_reducible refine (nget_at i q i q (Lib.hid rfl) (Lib.hid rfl) hn hq HT y0 y1 y2 y3 y4 g0 g1 g2 g3 g4 _ (H2.out.below (Below.refl w2.heap.size w2).drew).nd).mono ?_); rintro e w3 ⟨rfl, hb⟩; have HBB := Lib.hid ((Below.refl w2.heap.size w2).drew.trans (hb.mono (by simp))); clear hb))
            refine hK.out _ _ (hSS.out _ HBB.out) (fun hHeld => ?_)
            clear hK K
            (try simp only [Act.put, List.getElem_toArray, List.getElem_cons_succ, List.getElem_cons_zero, List.setIfInBounds_toArray, List.set_cons_zero, List.set_cons_succ])
            refine wpAnyH_take (i := 11) (v := ?_) (by rfl) (by kernel_rfl) (by kernel_rfl) (by kernel_rfl) (fun _ _ _ h => h) (Or.inl ⟨by kernel_rfl, ?_⟩) (by assumption) ?_; rotate_left 1; (focus (intro w hSw; (try dsimp only at hSw); simp only [List.getElem_toArray, List.getElem_cons_succ, List.getElem_cons_zero]; all_goals go_simp; all_goals (try with_reducible rfl))); (try simp only [Act.put, List.getElem_toArray, List.getElem_cons_succ, List.getElem_cons_zero, List.setIfInBounds_toArray, List.set_cons_zero, List.set_cons_succ])
            refine wpAnyH_take (i := 12) (v := ?_) (by rfl) (by kernel_rfl) (by kernel_rfl) (by kernel_rfl) (fun _ _ _ h => h) (Or.inl ⟨by kernel_rfl, ?_⟩) (by assumption) ?_; rotate_left 1; (focus (intro w hSw; (try dsimp only at hSw); simp only [List.getElem_toArray, List.getElem_cons_succ, List.getElem_cons_zero]; all_goals go_simp; all_goals (try with_reducible rfl))); (try simp only [Act.put, List.getElem_toArray, List.getElem_cons_succ, List.getElem_cons_zero, List.setIfInBounds_toArray, List.set_cons_zero, List.set_cons_succ])
            refine wpAnyH_take (i := 13) (v := ?_) (by rfl) (by kernel_rfl) (by kernel_rfl) (by kernel_rfl) (fun _ _ _ h => h) (Or.inl ⟨by kernel_rfl, ?_⟩) (by assumption) ?_; rotate_left 1; (focus (intro w hSw; (try dsimp only at hSw); simp only [List.getElem_toArray, List.getElem_cons_succ, List.getElem_cons_zero]; all_goals go_simp; all_goals (try with_reducible rfl))); (try simp only [Act.put, List.getElem_toArray, List.getElem_cons_succ, List.getElem_cons_zero, List.setIfInBounds_toArray, List.set_cons_zero, List.set_cons_succ])
            refine wpAnyH_ready (rs := [14]) (by kernel_rfl) (by simp) ?_
            refine AllReadyH.cons (by rfl) (fun K hK => ?_) AllReadyH.nil
            rw [if_pos (by kernel_rfl)]
            simp only [List.getElem_toArray, List.getElem_cons_succ, List.getElem_cons_zero]
            go_wp2_with fail
            refine hK.out _ _ (hSS.out _ (HBB.out.alloc HBB.out.size _)) (fun hHeld => ?_)
            clear hK K
            (try simp only [Act.put, List.getElem_toArray, List.getElem_cons_succ, List.getElem_cons_zero, List.setIfInBounds_toArray, List.set_cons_zero, List.set_cons_succ])
            refine wpAnyH_ready (rs := [15]) (by kernel_rfl) (by simp) ?_
            refine AllReadyH.cons (by rfl) (fun K hK => ?_) AllReadyH.nil
            rw [if_pos (by kernel_rfl)]
            simp only [List.getElem_toArray, List.getElem_cons_succ, List.getElem_cons_zero]
            go_wp2_with fail
            refine hK.out _ _ (hSS.out _ (HBB.out.alloc HBB.out.size _)) (fun hHeld => ?_)
            clear hK K
            (try simp only [Act.put, List.getElem_toArray, List.getElem_cons_succ, List.getElem_cons_zero, List.setIfInBounds_toArray, List.set_cons_zero, List.set_cons_succ])
            refine wpAnyH_take (i := 16) (v := ?_) (by rfl) (by kernel_rfl) (by kernel_rfl) (by kernel_rfl) (fun _ _ _ h => h) (Or.inl ⟨by kernel_rfl, ?_⟩) (by assumption) ?_; rotate_left 1; (focus (intro w hSw; (try dsimp only at hSw); simp only [List.getElem_toArray, List.getElem_cons_succ, List.getElem_cons_zero]; all_goals go_simp; all_goals (try with_reducible rfl))); (try simp only [Act.put, List.getElem_toArray, List.getElem_cons_succ, List.getElem_cons_zero, List.setIfInBounds_toArray, List.set_cons_zero, List.set_cons_succ])
            refine wpAnyH_done (by kernel_rfl) ?_ _
            refine NoPanic.normal ?_
            go_wp2_with fail
            go_meet
            have hb := HBB.out.alloc (Nat.le_trans HBB.out.size (Nat.le_refl _)) (.cells #[.int .i64 y0, .int .i64 y1, .int .i64 y2, .int .i64 y3, .int .u32 y4] 25 (0, 0))
            exact ⟨_, rfl, rfl, HB1.out.trans (hb.mono hz), KeyC.new _ y0 y1 y2 y3 y4 _, HK1.out.below hb, HP1.out.below hb, Nat.lt_of_lt_of_le hz2 HBB.out.size, HI1.out.below hb⟩
          · skip
            rw [if_pos (by kernel_rfl)]
            simp only [List.getElem_toArray, List.getElem_cons_succ, List.getElem_cons_zero]
            go_wp2_with fail
            refine hK.out _ _ (hSS.out _ ((Below.refl w2.heap.size w2).alloc (Nat.le_refl _) _).drew) (fun hHeld => ?_)
            clear hK K
            (try simp only [Act.put, List.getElem_toArray, List.getElem_cons_succ, List.getElem_cons_zero, List.setIfInBounds_toArray, List.set_cons_zero, List.set_cons_succ])
            refine wpAnyH_ready (rs := [10]) (by kernel_rfl) (by simp) ?_
            refine AllReadyH.cons (by rfl) (fun K hK => ?_) AllReadyH.nil
            rw [if_pos (by kernel_rfl)]
            simp only [List.getElem_toArray, List.getElem_cons_succ, List.getElem_cons_zero]
            go_wp2_with (first | (go_at_call 40; (with_reducible refine (nget_at i q i q (Lib.hid rfl) (Lib.hid rfl) hn hq HT y0 y1 y2 y3 y4 g0 g1 g2 g3 g4 _ (H2.out.below ((Below.refl w2.heap.size w2).alloc (Nat.le_refl _) _).drew).nd).mono ?_); rintro e w3 ⟨rfl, hb⟩; have HBA := Lib.hid (((Below.refl w2.heap.size w2).alloc (Nat.le_refl _) _).drew.trans (hb.mono (by simp; try omega))); have hKB := ((KeyC.new w2 0 0 0 0 0 25).below (Below.refl _ _).drew).below hb; have kc0 := hKB.c0; have kc1 := hKB.c1; have kc2 := hKB.c2; have kc3 := hKB.c3; have kc4 := hKB.c4; have kf0 := hKB.fr 0; have kf1 := hKB.fr 1; have kf2 := hKB.fr 2; have kf3 := hKB.fr 3; have kf4 := hKB.fr 4; have HKB := Lib.hid hKB; clear hb hKB))
            refine hK.out _ _ (hSS.out _ HBA.out) (fun hHeld => ?_)
            clear hK K
            (try simp only [Act.put, List.getElem_toArray, List.getElem_cons_succ, List.getElem_cons_zero, List.setIfInBounds_toArray, List.set_cons_zero, List.set_cons_succ])
            refine wpAnyH_take (i := 11) (v := ?_) (by rfl) (by kernel_rfl) (by kernel_rfl) (by kernel_rfl) (fun _ _ _ h => h) (Or.inl ⟨by kernel_rfl, ?_⟩) (by assumption) ?_; rotate_left 1; (focus (intro w hSw; (try dsimp only at hSw); simp only [List.getElem_toArray, List.getElem_cons_succ, List.getElem_cons_zero]; all_goals go_simp; all_goals (try with_reducible rfl))); (try simp only [Act.put, List.getElem_toArray, List.getElem_cons_succ, List.getElem_cons_zero, List.setIfInBounds_toArray, List.set_cons_zero, List.set_cons_succ])
            refine wpAnyH_take (i := 12) (v := ?_) (by rfl) (by kernel_rfl) (by kernel_rfl) (by kernel_rfl) (fun _ _ _ h => h) (Or.inl ⟨by kernel_rfl, ?_⟩) (by assumption) ?_; rotate_left 1; (focus (intro w hSw; (try dsimp only at hSw); simp only [List.getElem_toArray, List.getElem_cons_succ, List.getElem_cons_zero]; all_goals go_simp; all_goals (try with_reducible rfl))); (try simp only [Act.put, List.getElem_toArray, List.getElem_cons_succ, List.getElem_cons_zero, List.setIfInBounds_toArray, List.set_cons_zero, List.set_cons_succ])
            refine wpAnyH_take (i := 13) (v := ?_) (by rfl) (by kernel_rfl) (by kernel_rfl) (by kernel_rfl) (fun _ _ _ h => h) (Or.inl ⟨by kernel_rfl, ?_⟩) (by assumption) ?_; rotate_left 1; (focus (intro w hSw; (try dsimp only at hSw); simp only [List.getElem_toArray, List.getElem_cons_succ, List.getElem_cons_zero]; all_goals go_simp; all_goals (try with_reducible rfl))); (try simp only [Act.put, List.getElem_toArray, List.getElem_cons_succ, List.getElem_cons_zero, List.setIfInBounds_toArray, List.set_cons_zero, List.set_cons_succ])
            refine wpAnyH_ready (rs := [15]) (by kernel_rfl) (by simp) ?_
            refine AllReadyH.cons (by rfl) (fun K hK => ?_) AllReadyH.nil
            rw [if_pos (by kernel_rfl)]
            simp only [List.getElem_toArray, List.getElem_cons_succ, List.getElem_cons_zero]
            go_wp2_with fail
            have hb := below_set5 HBA.out (Nat.le_refl _) y0 y1 y2 y3 y4
            refine hK.out _ _ (hSS.out _ hb) (fun hHeld => ?_)
            clear hK K
            (try simp only [Act.put, List.getElem_toArray, List.getElem_cons_succ, List.getElem_cons_zero, List.setIfInBounds_toArray, List.set_cons_zero, List.set_cons_succ])
            refine wpAnyH_take (i := 16) (v := ?_) (by rfl) (by kernel_rfl) (by kernel_rfl) (by kernel_rfl) (fun _ _ _ h => h) (Or.inl ⟨by kernel_rfl, ?_⟩) (by assumption) ?_; rotate_left 1; (focus (intro w hSw; (try dsimp only at hSw); simp only [List.getElem_toArray, List.getElem_cons_succ, List.getElem_cons_zero]; all_goals go_simp; all_goals (try with_reducible rfl))); (try simp only [Act.put, List.getElem_toArray, List.getElem_cons_succ, List.getElem_cons_zero, List.setIfInBounds_toArray, List.set_cons_zero, List.set_cons_succ])
            refine wpAnyH_done (by kernel_rfl) ?_ _
            refine NoPanic.normal ?_
            go_wp2_with fail
            go_meet
            exact ⟨_, rfl, rfl, HB1.out.trans (hb.mono hz), HKB.out.set y0 y1 y2 y3 y4, HK1.out.below hb, HP1.out.below hb, hz2, HI1.out.below hb⟩
        case rest =>
          obtain ⟨bx, rfl, rfl, hb, ky, kk, kp, hl, hI⟩ := hcut
          have HIC := Lib.hid hI
          clear hI
          have y0' := ky.c0
          have y1' := ky.c1
          have y2' := ky.c2
          have y3' := ky.c3
          have y4' := ky.c4
          have q0 := kk.c0
          have q1 := kk.c1
          have q2 := kk.c2
          have q3 := kk.c3
          have q4 := kk.c4
          have f0 := kk.fr 0
          have f1 := kk.fr 1
          have f2 := kk.fr 2
          have f3 := kk.fr 3
          have f4 := kk.fr 4
          have HC := Lib.hid hb
          have HKK := Lib.hid kk
          have HPP := Lib.hid kp
          clear hb ky kk kp
          go_wp2_with fail
          go_region
          all_goals (go_wp2_with fail; go_roundw)
          case rel =>
            have hd := (Below.refl wc.heap.size wc).drew
            refine ⟨y0, y1, y2, y3, y4, h, r', _, _, v', l ++ [(i : Int)], ?_, rfl, rfl, next, (HKK.out.below hd).set y0 y1 y2 y3 y4, (HPP.out.below hd).far5 (by omega) _ _ _ _ _, below_set5 (HC.out.trans (hd.mono HC.out.size)) (by have := HW0.out; omega) y0 y1 y2 y3 y4, (HIC.out.below hd).put5 _ (by have := HIB.out; omega) HOW.out.1 (by have := HW0.out; omega) y0 y1 y2 y3 y4, by rw [List.append_assoc]; exact HLr.out, HOW.out⟩
            rw [E3.out]
          case measure =>
            simp [intOf]; omega
end Go.Proofs.YtkhgnmgcdgjncaaDoor
namespace Go.Proofs.YtkhgnmgcdgjncaaDoor
open Go.ChangeShapes Go.WideShapes Go.ChangeAt Go.RowKit
set_option linter.unusedVariables false
theorem idat_new (w : World) (o : Obj) : IdAt w ((w.alloc o).alloc (.cells #[.slice none 0 0] 73 (0, 0))) (w.heap.size + 1) (.slice none 0 0) [] :=
  ⟨((Below.refl _ _).alloc (Nat.le_refl _) _ : Below w.heap.size w (w.alloc o)).alloc (by simp) _, by omega, by simp, by
    have : ((w.alloc o).alloc (.cells #[.slice none 0 0] 73 (0, 0))).cell? ⟨(w.alloc o).heap.size, 0, none⟩ = some (.slice none 0 0) := by simp
    rwa [show (w.alloc o).heap.size = w.heap.size + 1 by simp] at this, by
    have : ((w.alloc o).alloc (.cells #[.slice none 0 0] 73 (0, 0))).frozen? ⟨(w.alloc o).heap.size, 0, none⟩ = false := by simp
    rwa [show (w.alloc o).heap.size = w.heap.size + 1 by simp] at this, World.ownsRow_nil _ _ _ _, fun g hg => by simp [Value.ownBlock] at hg⟩
set_option maxRecDepth 100000 in
theorem pNodes_is {S : Nat} {a b : Shp} {th : Nat → Bool} {vr_ : Nat → Int} {W : Nat → Nat → Value} {th2 : Nat → Bool} {vr2 : Nat → Int} {W2 : Nat → Nat → Int} (k0 k1 k2 k3 k4 addr : Int) (ids : List Int) (hlen : Hid (ids.length ≤ 100)) (pg at_ : Int) (r : Bool) (f : Int) (hw : Hid (Way a b th vr_ W th2 vr2 k0 k1 k2 k3 k4 5 addr false ids pg at_ r f)) (w : World) (h : (StAt w S a b th vr_ W th2 vr2 W2)) :
    Calls Tryd.prog 45 #[.pointer (some ⟨S, 0, none⟩), (Value.agg #[.int .i64 k0, .int .i64 k1, .int .i64 k2, .int .i64 k3, .int .u32 k4]), .int .u32 addr] w fun e w' => ∃ v, e = .returned v ∧ w'.ownsRow w.heap.size 3 1 v ids.length (ids.map (Value.int .i64)) ∧ Below w.heap.size w w' := by
  have H := Lib.hid h
  clear h
  go_enter Tryd.func45, Tryd.ntmps45
  go_wp2_with (first
    | (go_at_call 79; (with_reducible refine (pwalk1_is k0 k1 k2 k3 k4 addr ids hlen pg at_ r f hw w _ H.out (w.heap.size + 1) (idat_new _ _)).mono ?_); rintro e w1 ⟨rfl, v, hI⟩; have HI := Lib.hid hI; have c := hI.c; clear hI))
  go_ret
  exact ⟨v, rfl, HI.out.row, HI.out.bel⟩
end Go.Proofs.YtkhgnmgcdgjncaaDoor
namespace Go.Proofs.YtkhgnmgcdgjncaaDoor
open Go.ChangeShapes Go.WideShapes Go.ChangeAt Go.RowKit
set_option linter.unusedVariables false
set_option linter.unusedSimpArgs false
theorem way_ro00 {a b : Shp} {th : Nat → Bool} {vr_ : Nat → Int} {W : Nat → Nat → Value} {th2 : Nat → Bool} {vr2 : Nat → Int} {k0 k1 k2 k3 k4 below addr pg at_ f : Int} {ro : Bool} {ids : List Int} (h : Way a b th vr_ W th2 vr2 k0 k1 k2 k3 k4 below addr ro ids pg at_ ((false || roB 0) || roB 0) f) : Way a b th vr_ W th2 vr2 k0 k1 k2 k3 k4 below addr ro ids pg at_ false f := by
  have e : ((false || roB 0) || roB 0) = false := by decide
  rwa [e] at h
theorem xor1_in (s : Nat) (h : s < 16) : ∃ x : Nat, x < 16 ∧ x ≠ s ∧ bits BinOp.xor IntKind.i64 (s : Int) 1 = x := by
  have : ∀ n : Fin 16, ∃ x : Fin 16, x.val ≠ n.val ∧ bits BinOp.xor IntKind.i64 (n.val : Int) 1 = (x.val : Int) := by decide +kernel
  obtain ⟨x, h1, h2⟩ := this ⟨s, h⟩
  exact ⟨x.val, x.isLt, h1, h2⟩
theorem way_cast {a b : Shp} {th : Nat → Bool} {vr_ : Nat → Int} {W : Nat → Nat → Value} {th2 : Nat → Bool} {vr2 : Nat → Int} {k0 k1 k2 k3 k4 below addr pg at_ f : Int} {ro r r' : Bool} {ids : List Int} (h : Way a b th vr_ W th2 vr2 k0 k1 k2 k3 k4 below addr ro ids pg at_ r f) (e : r = r') : Way a b th vr_ W th2 vr2 k0 k1 k2 k3 k4 below addr ro ids pg at_ r' f := e ▸ h
theorem PlC.far2 {w w' : World} {b B G : Nat} {x y : Int} {r : Bool} (h : PlC w b x y r) (hb : PBelow w w' B G) (h1 : b ≠ B) (h2 : b ≠ G) : PlC w' b x y r :=
  h.same hb.2.2.2.1 (hb.2.2.2.2 b h.lt h1 h2)
def ltB (i : Nat) : Nat → Bool := fun x => decide (x < i)
theorem ltB_0 : ltB 0 = fun _ => false := by funext x; simp [ltB]
theorem ltB_s (i : Nat) : upd (ltB i) i true = ltB (i + 1) := by
  funext x
  by_cases h : x = i
  · subst h
    rw [upd_at]
    simp [ltB]
  · rw [upd_other _ _ _ _ h]
    unfold ltB
    rw [decide_eq_decide]
    omega
theorem freeB_lt (i j : Nat) : freeB (ltB i) (fun _ => 0) j = !decide (j < i) := by simp [freeB, ltB]
theorem right_page (i : Nat) (h : i < 16) : rightB 3 i 0 0 0 = true := by
  have : ∀ n : Fin 16, rightB 3 (n.val : Int) 0 0 0 = true := by decide +kernel
  exact this ⟨i, h⟩
set_option maxRecDepth 100000 in
set_option maxHeartbeats 8000000 in
theorem fills_walk (ad : Nat) (a1 : Int) (hu1 : ad ≤ 4294967295) (w : World) (vs vr : Value) (hE : ErrsAt vs vr w) :
    Calls Tryd.prog 6 #[.int .u32 (ad : Int), .int .i64 a1] w fun e w' => e = .returned (.bool true) ∧ Below w.heap.size w w' := by
  have HE := Lib.hid hE
  obtain ⟨slot, hs15, es⟩ := and15_in a1
  have ES := Lib.hid es
  clear hE es
  go_enter Tryd.func6, Tryd.ntmps6
  go_upto_region 8 with (first
    | (go_at_call 42; refine (pfirst9_is _).mono ?_; rintro e w1 ⟨rfl, hb1⟩; have HB1 := Lib.hid hb1; clear hb1)
    | (go_at_call 12; (with_reducible refine (snew_ok 2 16 2 16 (Lib.hid rfl) (Lib.hid rfl) (by decide) (by decide) (by decide) (by decide) _).mono ?_); rintro e w2 ⟨S, a, b, rfl, hs, hn, hb⟩; have HN := Lib.hid hn.out; have H2 : Hid (SV w w2 S a b _ _ _ _ _ _) := Lib.hid ⟨HB1.out.trans (hb.mono HB1.out.size), by have := hn.out.2.2; have := HB1.out.size; omega, hs⟩; have s0 := hs.s0; clear hs hb hn)
    | (go_at_call 17; (with_reducible refine (nmake_at 0 vs vr none 0 0 (fun _ _ => 0) (by decide) (Lib.hid (by intro i hi; omega)) 0 (Lib.hid rfl) (by have := HN.out; omega) (Lib.hid (by decide)) (Lib.hid (by intro i hi; omega)) 0 (Lib.hid rfl) _ (HE.out.below H2.out.bel) H2.out.st.nd (srcK_none _ _ _ _)).mono ?_); rintro e w4 ⟨rfl, hM, hb⟩; have H4 := Lib.hid (H2.out.node hM hb); clear hM hb s0))
  obtain ⟨W0, hW⟩ : ∃ W, W = freshV (fun _ b => zc b) 0 (kcs (fun _ _ => 0) 0) := ⟨_, rfl⟩
  have HALL0 : Hid (All16 (W0 0)) := Lib.hid (by rw [hW]; exact All16.fresh _ _ _)
  rw [← hW] at H4
  have HLo : Hid (StLo S a b w4.heap.size) := Lib.hid H4.out.st.lo
  obtain ⟨N, hN⟩ : ∃ N, Hid (w4.heap.size = N) := ⟨_, Lib.hid rfl⟩
  have HW4 : Hid (w.heap.size ≤ N) := Lib.hid (by rw [← hN.out]; exact H4.out.bel.size)
  have HN4 : Hid (N ≤ w4.heap.size) := Lib.hid (by rw [← hN.out]; exact Nat.le_refl _)
  rw [hN.out] at HLo
  have H40 : Hid (SV w w4 S a b (upd (fun _ => false) 0 true) (fun _ => 0) W0 (ltB 0) (fun _ => 0) (fun _ _ => 0)) := Lib.hid (by rw [ltB_0]; exact H4.out)
  clear hW H2 H4 HB1 hN
  have HTA : Hid ((upd (fun _ => false) 0 true) 0 = true) := Lib.hid rfl
  have HAN : Hid (a.n = 2 ∧ b.n = 16) := Lib.hid ⟨HN.out.1, HN.out.2.1⟩
  have HA0 : Hid (0 < a.n) := Lib.hid (by have := HAN.out; omega)
  go_wp2_with fail
  go_loopw [8] (fun z wr => ∃ (i : Nat) (W : Nat → Nat → Value) (W2 : Nat → Nat → Int), i ≤ 16 ∧ z = .int .i64 i ∧ SV w wr S a b (upd (fun _ => false) 0 true) (fun _ => 0) W (ltB i) (fun _ => 0) W2 ∧ All16 (W 0) ∧ (∀ j, j < i → KAt (W 0) j 3 j 0 0 0) ∧ N ≤ wr.heap.size) (fun z _ => 16 - (intOf z).toNat)
  case atStart => exact ⟨0, _, _, by omega, rfl, H40.out, HALL0.out, fun j hj => by omega, HN4.out⟩
  case round =>
    obtain ⟨i, W, W2, hi, rfl, hs, hall, hkk, hnn⟩ := hrel
    have HR := Lib.hid hs
    have HALL := Lib.hid hall
    have HKK := Lib.hid hkk
    have HNN := Lib.hid hnn
    have i0 : (0 : Int) ≤ i := by omega
    have s1 := hs.st.s1
    clear hs hall hkk hnn
    by_cases hlt : i < 16
    · have i1 : (i : Int) < 16 := by omega
      have HIb : Hid (i < b.n) := Lib.hid (by have := HAN.out; omega)
      have HFY : Hid (freeB (ltB i) (fun _ => 0) i = true) := Lib.hid (by rw [freeB_lt]; simp)
      have HFN : Hid (∀ x, x < i → freeB (ltB i) (fun _ => 0) x = false) := Lib.hid (fun x hx => by rw [freeB_lt]; simp [hx])
      have HTi : Hid (ltB (i + 1) i = true) := Lib.hid (by simp [ltB])
      go_upto_region 12 with (first
        | (go_at_call 20; (with_reducible refine (pmake_at i (some ⟨wr.heap.size, 0, none⟩) 1 1 [(i : Int)] (Lib.hid rfl) (by decide) i (Lib.hid rfl) HIb.out HFY HFN 0 (Lib.hid rfl) _ (HR.out.st.pg.below ((Below.refl _ _).alloc (Nat.le_refl _) _)) (srcu1 wr i _ b.B b.G HR.out.st.pg.ar.lt.2 (HR.out.st.pg.row.lt b.G rfl).2)).mono ?_); rintro e w3 ⟨rfl, hP, hb⟩; have H3 : Hid (SV w w3 S a b (upd (fun _ => false) 0 true) (fun _ => 0) W (ltB (i + 1)) (fun _ => 0) _) := Lib.hid (by rw [← ltB_s]; exact (HR.out.step ((Below.refl _ _).alloc (Nat.le_refl _) _)).page hP hb); have HNN3 := Lib.hid (Nat.le_trans HNN.out (Nat.le_trans (by simp) hb.2.2.2.1)); clear hP hb s1))
      have HSS : Hid (∀ w', Below w3.heap.size w3 w' → World.cell? w' ⟨S, 0, none⟩ = some (.pointer (some ⟨a.P, 0, none⟩))) := Lib.hid (fun w' hb => (H3.out.step hb).st.s0)
      refine wp_region_noPanic ?_
      refine wp_region_held_drew (S := fun w' => World.cell? w' ⟨S, 0, none⟩ = some (.pointer (some ⟨a.P, 0, none⟩))) (by kernel_rfl) (HSS.out _ (Below.refl w3.heap.size w3).drew) (fun hHeld => ?_)
      refine wpAnyH_take (i := 0) (v := ?_) (by rfl) (by kernel_rfl) (by kernel_rfl) (by kernel_rfl) (fun _ _ _ h => h) (Or.inl ⟨by kernel_rfl, ?_⟩) (by assumption) ?_; rotate_left 1; (focus (intro w hSw; (try dsimp only at hSw); simp only [List.getElem_toArray, List.getElem_cons_succ, List.getElem_cons_zero]; all_goals go_simp; all_goals (try with_reducible rfl))); (try simp only [Act.put, List.getElem_toArray, List.getElem_cons_succ, List.getElem_cons_zero, List.setIfInBounds_toArray, List.set_cons_zero, List.set_cons_succ])
      refine wpAnyH_take (i := 1) (v := ?_) (by rfl) (by kernel_rfl) (by kernel_rfl) (by kernel_rfl) (fun _ _ _ h => h) (Or.inl ⟨by kernel_rfl, ?_⟩) (by assumption) ?_; rotate_left 1; (focus (intro w hSw; (try dsimp only at hSw); simp only [List.getElem_toArray, List.getElem_cons_succ, List.getElem_cons_zero]; all_goals go_simp; all_goals (try with_reducible rfl))); (try simp only [Act.put, List.getElem_toArray, List.getElem_cons_succ, List.getElem_cons_zero, List.setIfInBounds_toArray, List.set_cons_zero, List.set_cons_succ])
      refine wpAnyH_take (i := 2) (v := ?_) (by rfl) (by kernel_rfl) (by kernel_rfl) (by kernel_rfl) (fun _ _ _ h => h) (Or.inl ⟨by kernel_rfl, ?_⟩) (by assumption) ?_; rotate_left 1; (focus (intro w hSw; (try dsimp only at hSw); simp only [List.getElem_toArray, List.getElem_cons_succ, List.getElem_cons_zero]; all_goals go_simp; all_goals (try with_reducible rfl))); (try simp only [Act.put, List.getElem_toArray, List.getElem_cons_succ, List.getElem_cons_zero, List.setIfInBounds_toArray, List.set_cons_zero, List.set_cons_succ])
      refine wpAnyH_take (i := 3) (v := ?_) (by rfl) (by kernel_rfl) (by kernel_rfl) (by kernel_rfl) (fun _ _ _ h => h) (Or.inl ⟨by kernel_rfl, ?_⟩) (by assumption) ?_; rotate_left 1; (focus (intro w hSw; (try dsimp only at hSw); simp only [List.getElem_toArray, List.getElem_cons_succ, List.getElem_cons_zero]; all_goals go_simp; all_goals (try with_reducible rfl))); (try simp only [Act.put, List.getElem_toArray, List.getElem_cons_succ, List.getElem_cons_zero, List.setIfInBounds_toArray, List.set_cons_zero, List.set_cons_succ])
      refine wpAnyH_take (i := 4) (v := ?_) (by rfl) (by kernel_rfl) (by kernel_rfl) (by kernel_rfl) (fun _ _ _ h => h) (Or.inl ⟨by kernel_rfl, ?_⟩) (by assumption) ?_; rotate_left 1; (focus (intro w hSw; (try dsimp only at hSw); simp only [List.getElem_toArray, List.getElem_cons_succ, List.getElem_cons_zero]; all_goals go_simp; all_goals (try with_reducible rfl))); (try simp only [Act.put, List.getElem_toArray, List.getElem_cons_succ, List.getElem_cons_zero, List.setIfInBounds_toArray, List.set_cons_zero, List.set_cons_succ])
      refine wpAnyH_take (i := 5) (v := ?_) (by rfl) (by kernel_rfl) (by kernel_rfl) (by kernel_rfl) (fun _ _ _ h => h) (Or.inl ⟨by kernel_rfl, ?_⟩) (by assumption) ?_; rotate_left 1; (focus (intro w hSw; (try dsimp only at hSw); simp only [List.getElem_toArray, List.getElem_cons_succ, List.getElem_cons_zero]; all_goals go_simp; all_goals (try with_reducible rfl))); (try simp only [Act.put, List.getElem_toArray, List.getElem_cons_succ, List.getElem_cons_zero, List.setIfInBounds_toArray, List.set_cons_zero, List.set_cons_succ])
      refine wpAnyH_take (i := 6) (v := ?_) (by rfl) (by kernel_rfl) (by kernel_rfl) (by kernel_rfl) (fun _ _ _ h => h) (Or.inl ⟨by kernel_rfl, ?_⟩) (by assumption) ?_; rotate_left 1; (focus (intro w hSw; (try dsimp only at hSw); simp only [List.getElem_toArray, List.getElem_cons_succ, List.getElem_cons_zero]; all_goals go_simp; all_goals (try with_reducible rfl))); (try simp only [Act.put, List.getElem_toArray, List.getElem_cons_succ, List.getElem_cons_zero, List.setIfInBounds_toArray, List.set_cons_zero, List.set_cons_succ])
      refine wpAnyH_ready (rs := [7]) (by kernel_rfl) (by simp) ?_; refine AllReadyH.cons (by rfl) (fun K hK => ?_) AllReadyH.nil; rw [if_pos (by kernel_rfl)]; simp only [List.getElem_toArray, List.getElem_cons_succ, List.getElem_cons_zero]
      go_wp2_with (first
        | (go_at_call 35; (with_reducible refine (spagekey_in i i (Lib.hid rfl) HIb.out HTi 0 (Lib.hid rfl) _ (H3.out.step (Below.refl w3.heap.size w3).drew).st).mono ?_); rintro e w5 ⟨rfl, hb⟩; have H5 := Lib.hid ((H3.out.step (Below.refl w3.heap.size w3).drew).step hb); have HNN5 := Lib.hid (Nat.le_trans HNN3.out hb.size); clear hb))
      refine hK.out _ _ H5.out.st.s0 (fun hHeld => ?_)
      clear hK K
      (try simp only [Act.put, List.getElem_toArray, List.getElem_cons_succ, List.getElem_cons_zero, List.setIfInBounds_toArray, List.set_cons_zero, List.set_cons_succ])
      refine wpAnyH_ready (rs := [8]) (by kernel_rfl) (by simp) ?_; refine AllReadyH.cons (by rfl) (fun K hK => ?_) AllReadyH.nil; rw [if_pos (by kernel_rfl)]; simp only [List.getElem_toArray, List.getElem_cons_succ, List.getElem_cons_zero]
      go_wp2_with (first
        | (go_at_call 43; (with_reducible refine (nset_at vs vr 0 i 0 i (Lib.hid rfl) (Lib.hid rfl) HA0.out hlt HTA 3 i 0 0 0 (Lib.hid (right_page i hlt)) _ (HE.out.below H5.out.bel) H5.out.st.nd (Lib.hid HALL.out.one)).mono ?_); rintro e w6 ⟨rfl, hM, hb⟩; have H6 := Lib.hid (H5.out.node hM hb); have HNN6 := Lib.hid (Nat.le_trans HNN5.out hb.2.2.2.1); clear hM hb))
      refine hK.out _ _ H6.out.st.s0 (fun hHeld => ?_)
      clear hK K
      (try simp only [Act.put, List.getElem_toArray, List.getElem_cons_succ, List.getElem_cons_zero, List.setIfInBounds_toArray, List.set_cons_zero, List.set_cons_succ])
      refine wpAnyH_done (by kernel_rfl) ?_ _
      refine NoPanic.normal ?_
      go_wp2_with fail
      go_roundw
      case rel =>
        refine ⟨i + 1, _, _, by omega, by go_num, H6.out, HALL.out.set 0 i 3 i 0 0 0, fun j hj => ?_, HNN6.out⟩
        by_cases hji : j = i
        · subst hji; exact updV_key W 0 j 3 j 0 0 0
        · exact updV_rest W 0 i 0 j 3 i 0 0 0 (fun h => hji h.2) (HKK.out j (by omega))
      case measure => simp [intOf]; omega
    · have hi16 : ¬ (i : Int) < 16 := by omega
      have HI16 : Hid (i = 16) := Lib.hid (by omega)
      clear hlt s1
      have HW16 : Hid (∀ j, j < 16 → KAt (W 0) j 3 j 0 0 0) := Lib.hid (fun j hj => HKK.out j (by have := HI16.out; omega))
      have HLB : Hid (∀ q : Nat, q < 16 → ∀ th', liveB a b th' (fun _ => 0) (ltB i) (fun _ => 0) 3 q 0 = true) := Lib.hid (fun q hq th' => by have h16 := HI16.out; have hb := HAN.out.2; unfold liveB thereB ltB; rw [if_neg (by decide), if_pos rfl]; simp; omega)
      by_cases h512 : 512 ≤ ad
      · have g512 : (512 : Int) ≤ ad := by omega
        have HWf : Hid (Way a b (upd (fun _ => false) 0 true) (fun _ => 0) W (ltB i) (fun _ => 0) 2 0 0 0 1 5 ad false [] 0 0 false 3) := Lib.hid (.fault 512 true true 3 (by decide) ⟨by decide, by decide⟩ (by simp [liveB, thereB, upd, HA0.out]) (by unfold entP; rw [if_neg (by decide), if_neg (by omega), if_pos g512]) rfl)
        go_wp2_with (first
          | (go_at_call 36; (with_reducible refine (snodekey_in 0 1 0 (Lib.hid rfl) (by decide) (by decide) HA0.out HTA 0 (Lib.hid rfl) _ HR.out.st).mono ?_); rintro e w7 ⟨rfl, hb⟩; have H7 := Lib.hid (HR.out.step hb); clear hb)
          | (go_at_call 44; (with_reducible refine (pWalk_is 2 0 0 0 1 _ [] 0 0 false 3 HWf _ (H7.out.step ((Below.refl _ _).alloc (Nat.le_refl _) _)).st).mono ?_); rintro e w8 ⟨rfl, hb⟩; have H8 := Lib.hid ((H7.out.step ((Below.refl _ _).alloc (Nat.le_refl _) _)).step hb); clear hb))
        go_ret
        exact ⟨by simp, H8.out.bel.alloc H8.out.bel.size _⟩
      · have g512 : (ad : Int) < 512 := by omega
        obtain ⟨q, s, hq, hs32, hqs⟩ := way_split 32 (by decide) ad (by omega)
        have e1 : (ad : Int) / 32 = q := by omega
        have e2 : (ad : Int) % 32 = s := by omega
        have HQS := Lib.hid hqs
        have hs0 : (0 : Int) ≤ s := by omega
        have hs1 : (s : Int) < 32 := by omega
        clear hqs
        have HWa : Hid (Way a b (upd (fun _ => false) 0 true) (fun _ => 0) W (ltB i) (fun _ => 0) 2 0 0 0 1 5 ad false [0] q s false 0) := Lib.hid (way_ro00 <| way_at 1 0 q s 3 q 0 0 0 rfl (by decide) (by decide) (by rw [HQS.out]) (by decide) rfl HA0.out HTA.out rfl hq hs32 (HW16.out q hq) (.page (by decide) hs0 (HLB.out q hq _) hs1))
        go_upto_region 17 with (first
          | (go_at_call 36; (with_reducible refine (snodekey_in 0 1 0 (Lib.hid rfl) (by decide) (by decide) HA0.out HTA 0 (Lib.hid rfl) _ HR.out.st).mono ?_); rintro e w7 ⟨rfl, hb⟩; have H7 := Lib.hid (HR.out.step (hb.alloc hb.size (.cells #[.int .i64 2, .int .i64 0, .int .i64 0, .int .i64 0, .int .u32 1] 25 (0, 0)))); have HN7 := Lib.hid (Nat.le_trans HNN.out hb.size); have HK7 := Lib.hid (KeyC.new w7 2 0 0 0 1 25); clear hb)
          | (go_at_call 44; (with_reducible refine (pWalk_is 2 0 0 0 1 _ [0] q s false 0 HWa _ H7.out.st).mono ?_); rintro e w8 ⟨rfl, hb⟩; have hb9 := hb.alloc hb.size (.cells #[.int .i64 q, .int .i64 s, .bool false] 97 (0, 0)); have H8 := Lib.hid (H7.out.step hb9); have HK8 := Lib.hid (HK7.out.below hb9); have HP8 := Lib.hid (PlC.new w8 q s false 97); have HZ8 := Lib.hid hb.size; clear hb hb9))
        have es := ES.out
        have HT1 : Hid (upd (upd (fun _ => false) 0 true) 1 true 1 = true) := Lib.hid (upd_at _ _ _)
        have HT10 : Hid (upd (upd (fun _ => false) 0 true) 1 true 0 = true) := Lib.hid (by rw [upd_other _ _ _ _ (by decide)]; rfl)
        have HA1 : Hid (1 < a.n) := Lib.hid (by have := HAN.out; omega)
        obtain ⟨kb, hkb⟩ : ∃ kb, Hid (w7.heap.size = kb) := ⟨_, Lib.hid rfl⟩
        obtain ⟨pb, hpb⟩ : ∃ pb, Hid (w8.heap.size = pb) := ⟨_, Lib.hid rfl⟩
        have HNK : Hid (N ≤ kb ∧ N ≤ pb) := Lib.hid (by have h1 := HN7.out; have h2 := hkb.out; have h3 := hpb.out; have h4 := HZ8.out; simp at h4; omega)
        rw [hkb.out] at HK8 ⊢
        rw [hpb.out] at HP8 ⊢
        have p0 := HP8.out.c0
        have p1 := HP8.out.c1
        have p2 := HP8.out.c2
        have s8 := H8.out.st.s0
        have HFa : Hid (freeB (upd (fun _ => false) 0 true) (fun _ => 0) 1 = true) := Lib.hid (by decide)
        have HFb : Hid (∀ x, x < 1 → freeB (upd (fun _ => false) 0 true) (fun _ => 0) x = false) := Lib.hid (fun x hx => by (have e : x = 0 := (by omega)); subst e; decide)
        go_upto_region 21 with (first
          | (go_at_call 17; (with_reducible refine (nmake_at 1 vs vr none 0 0 (fun _ _ => 0) (by decide) (Lib.hid (by intro i hi; omega)) 1 (Lib.hid rfl) HA1.out HFa HFb 0 (Lib.hid rfl) _ (HE.out.below H8.out.bel) H8.out.st.nd (srcK_none _ _ _ _)).mono ?_); rintro e w9 ⟨rfl, hM, hb⟩; have H9 := Lib.hid (H8.out.node hM hb); have HK9 := Lib.hid (HK8.out.pbelow hb (by have := HLo.out.n; have := HNK.out; omega) (by have := HLo.out.n; have := HNK.out; omega)); have HP9 := Lib.hid (HP8.out.far2 hb (by have := HLo.out.n; have := HNK.out; omega) (by have := HLo.out.n; have := HNK.out; omega)); clear hM hb s8))
        have hsl : slot < 16 := by omega
        have s0' : (slot : Int) < 16 := by omega
        have HALL1 : Hid (All16 (freshV W 1 (kcs (fun _ _ => 0) 0) 1)) := Lib.hid (All16.fresh W 1 _)
        have HSS9 : Hid (∀ w', Below w9.heap.size w9 w' → (World.cell? w' ⟨S, 0, none⟩ = some (.pointer (some ⟨a.P, 0, none⟩)) ∧ World.cell? w' ⟨kb, 0, none⟩ = some (.int .i64 2) ∧ World.cell? w' ⟨kb, 1, none⟩ = some (.int .i64 0) ∧ World.cell? w' ⟨kb, 2, none⟩ = some (.int .i64 0) ∧ World.cell? w' ⟨kb, 3, none⟩ = some (.int .i64 0) ∧ World.cell? w' ⟨kb, 4, none⟩ = some (.int .u32 1))) := Lib.hid (fun w' hb => ⟨(H9.out.step hb).st.s0, (HK9.out.below hb).c0, (HK9.out.below hb).c1, (HK9.out.below hb).c2, (HK9.out.below hb).c3, (HK9.out.below hb).c4⟩)
        refine wp_region_noPanic ?_
        refine wp_region_held_drew (S := fun w' => (World.cell? w' ⟨S, 0, none⟩ = some (.pointer (some ⟨a.P, 0, none⟩)) ∧ World.cell? w' ⟨kb, 0, none⟩ = some (.int .i64 2) ∧ World.cell? w' ⟨kb, 1, none⟩ = some (.int .i64 0) ∧ World.cell? w' ⟨kb, 2, none⟩ = some (.int .i64 0) ∧ World.cell? w' ⟨kb, 3, none⟩ = some (.int .i64 0) ∧ World.cell? w' ⟨kb, 4, none⟩ = some (.int .u32 1))) (by kernel_rfl) (HSS9.out _ (Below.refl w9.heap.size w9).drew) (fun hHeld => ?_)
        refine wpAnyH_take (i := 0) (v := ?_) (by rfl) (by kernel_rfl) (by kernel_rfl) (by kernel_rfl) (fun _ _ _ h => h) (Or.inl ⟨by kernel_rfl, ?_⟩) (by assumption) ?_; rotate_left 1; (focus (intro w hSw; (try dsimp only at hSw); simp only [List.getElem_toArray, List.getElem_cons_succ, List.getElem_cons_zero]; all_goals go_simp; all_goals (try with_reducible rfl))); (try simp only [Act.put, List.getElem_toArray, List.getElem_cons_succ, List.getElem_cons_zero, List.setIfInBounds_toArray, List.set_cons_zero, List.set_cons_succ])
        refine wpAnyH_take (i := 1) (v := ?_) (by rfl) (by kernel_rfl) (by kernel_rfl) (by kernel_rfl) (fun _ _ _ h => h) (Or.inl ⟨by kernel_rfl, ?_⟩) (by assumption) ?_; rotate_left 1; (focus (intro w hSw; (try dsimp only at hSw); simp only [List.getElem_toArray, List.getElem_cons_succ, List.getElem_cons_zero]; all_goals go_simp; all_goals (try with_reducible rfl))); (try simp only [Act.put, List.getElem_toArray, List.getElem_cons_succ, List.getElem_cons_zero, List.setIfInBounds_toArray, List.set_cons_zero, List.set_cons_succ])
        refine wpAnyH_take (i := 2) (v := ?_) (by rfl) (by kernel_rfl) (by kernel_rfl) (by kernel_rfl) (fun _ _ _ h => h) (Or.inl ⟨by kernel_rfl, ?_⟩) (by assumption) ?_; rotate_left 1; (focus (intro w hSw; (try dsimp only at hSw); simp only [List.getElem_toArray, List.getElem_cons_succ, List.getElem_cons_zero]; all_goals go_simp; all_goals (try with_reducible rfl))); (try simp only [Act.put, List.getElem_toArray, List.getElem_cons_succ, List.getElem_cons_zero, List.setIfInBounds_toArray, List.set_cons_zero, List.set_cons_succ])
        refine wpAnyH_take (i := 3) (v := ?_) (by rfl) (by kernel_rfl) (by kernel_rfl) (by kernel_rfl) (fun _ _ _ h => h) (Or.inl ⟨by kernel_rfl, ?_⟩) (by assumption) ?_; rotate_left 1; (focus (intro w hSw; (try dsimp only at hSw); simp only [List.getElem_toArray, List.getElem_cons_succ, List.getElem_cons_zero]; all_goals go_simp; all_goals (try with_reducible rfl))); (try simp only [Act.put, List.getElem_toArray, List.getElem_cons_succ, List.getElem_cons_zero, List.setIfInBounds_toArray, List.set_cons_zero, List.set_cons_succ])
        refine wpAnyH_take (i := 4) (v := ?_) (by rfl) (by kernel_rfl) (by kernel_rfl) (by kernel_rfl) (fun _ _ _ h => h) (Or.inl ⟨by kernel_rfl, ?_⟩) (by assumption) ?_; rotate_left 1; (focus (intro w hSw; (try dsimp only at hSw); simp only [List.getElem_toArray, List.getElem_cons_succ, List.getElem_cons_zero]; all_goals go_simp; all_goals (try with_reducible rfl))); (try simp only [Act.put, List.getElem_toArray, List.getElem_cons_succ, List.getElem_cons_zero, List.setIfInBounds_toArray, List.set_cons_zero, List.set_cons_succ])
        refine wpAnyH_take (i := 5) (v := ?_) (by rfl) (by kernel_rfl) (by kernel_rfl) (by kernel_rfl) (fun _ _ _ h => h) (Or.inl ⟨by kernel_rfl, ?_⟩) (by assumption) ?_; rotate_left 1; (focus (intro w hSw; (try dsimp only at hSw); simp only [List.getElem_toArray, List.getElem_cons_succ, List.getElem_cons_zero]; all_goals go_simp; all_goals (try with_reducible rfl))); (try simp only [Act.put, List.getElem_toArray, List.getElem_cons_succ, List.getElem_cons_zero, List.setIfInBounds_toArray, List.set_cons_zero, List.set_cons_succ])
        refine wpAnyH_ready (rs := [6]) (by kernel_rfl) (by simp) ?_; refine AllReadyH.cons (by rfl) (fun K hK => ?_) AllReadyH.nil; rw [if_pos (by kernel_rfl)]; simp only [List.getElem_toArray, List.getElem_cons_succ, List.getElem_cons_zero]
        have hbd := (Below.refl w9.heap.size w9).drew
        have HD := Lib.hid (H9.out.step hbd)
        have HKD := Lib.hid (HK9.out.below hbd)
        have HPD := Lib.hid (HP9.out.below hbd)
        clear hbd
        go_wp2_with (first
          | (go_at_call 43; (with_reducible refine (nset_at vs vr 1 slot 1 slot (Lib.hid rfl) (Lib.hid rfl) HA1.out hsl HT1 2 0 0 0 1 (Lib.hid (by decide)) _ (HE.out.below HD.out.bel) HD.out.st.nd (Lib.hid HALL1.out.one)).mono ?_); rintro e w10 ⟨rfl, hM, hb⟩; have H10 := Lib.hid (HD.out.node hM hb); have HK10 := Lib.hid (HKD.out.pbelow hb (by have := HLo.out.n; have := HNK.out; omega) (by have := HLo.out.n; have := HNK.out; omega)); have HP10 := Lib.hid (HPD.out.far2 hb (by have := HLo.out.n; have := HNK.out; omega) (by have := HLo.out.n; have := HNK.out; omega)); clear hM hb))
        refine hK.out _ _ ⟨H10.out.st.s0, HK10.out.c0, HK10.out.c1, HK10.out.c2, HK10.out.c3, HK10.out.c4⟩ (fun hHeld => ?_)
        clear hK K
        (try simp only [Act.put, List.getElem_toArray, List.getElem_cons_succ, List.getElem_cons_zero, List.setIfInBounds_toArray, List.set_cons_zero, List.set_cons_succ])
        refine wpAnyH_done (by kernel_rfl) ?_ _
        refine NoPanic.normal ?_
        obtain ⟨x, hx16, hxs, ex⟩ := xor1_in slot hsl
        obtain ⟨W3, HW3⟩ : ∃ W3, Hid (updV (freshV W 1 (kcs (fun _ _ => 0) 0)) 1 (slot * 5) (k5 2 0 0 0 1) = W3) := ⟨_, Lib.hid rfl⟩
        have HQ0 : Hid (∀ q : Nat, q < 16 → KAt (W3 0) q 3 q 0 0 0) := Lib.hid (fun q hq => by rw [← HW3.out]; exact updV_rest _ 1 slot 0 q 2 0 0 0 1 (fun h => by cases h.1) (freshV_rest W 1 _ 0 q (by decide) (HW16.out q hq)))
        have HS1 : Hid (KAt (W3 1) slot 2 0 0 0 1) := Lib.hid (by rw [← HW3.out]; exact updV_key _ 1 slot 2 0 0 0 1)
        have HX1 : Hid (KAt (W3 1) x 0 0 0 0 0) := Lib.hid (by rw [← HW3.out]; exact updV_rest _ 1 slot 1 x 2 0 0 0 1 (fun h => hxs h.2) (freshV_nokey W 1 _ 0 x (Nat.zero_le _) hx16))
        rw [HW3.out] at H10
        have HWr : Hid (Way a b (upd (upd (fun _ => false) 0 true) 1 true) (fun _ => 0) W3 (ltB i) (fun _ => 0) 2 1 0 0 2 5 ((slot : Int) * 512 + ad) false [1, 0] q s false 0) := Lib.hid (way_cast (way_at 2 1 slot ad 2 0 0 0 1 rfl (by decide) (by decide) (by omega) (by decide) rfl HA1.out HT1.out rfl hsl (by omega) HS1.out (way_at 1 0 q s 3 q 0 0 0 rfl (by decide) (by decide) (by rw [HQS.out]) (by decide) rfl HA0.out HT10.out rfl hq hs32 (HQ0.out q hq) (.page (by decide) hs0 (HLB.out q hq _) hs1))) (by decide))
        have HWx : Hid (Way a b (upd (upd (fun _ => false) 0 true) 1 true) (fun _ => 0) W3 (ltB i) (fun _ => 0) 2 1 0 0 2 5 ((x : Int) * 512 + ad) false [1] 0 0 false 2) := Lib.hid (way_at 2 1 x ad 0 0 0 0 0 rfl (by decide) (by decide) (by omega) (by decide) rfl HA1.out HT1.out rfl hx16 (by omega) HX1.out (.fault _ _ _ 2 (by decide) ⟨rfl, rfl⟩ rfl (by simp [entP, szB]) rfl))
        have HWn : Hid (Way a b (upd (upd (fun _ => false) 0 true) 1 true) (fun _ => 0) W3 (ltB i) (fun _ => 0) 2 1 0 0 2 5 ((slot : Int) * 512) false [1, 0] 0 0 false 0) := Lib.hid (way_cast (way_at 2 1 slot 0 2 0 0 0 1 rfl (by decide) (by decide) (by omega) (by decide) rfl HA1.out HT1.out rfl hsl (by decide) HS1.out (way_at 1 0 0 0 3 0 0 0 0 rfl (by decide) (by decide) (by decide) (by decide) rfl HA0.out HT10.out rfl (by decide) (by decide) (HQ0.out 0 (by decide)) (.page (by decide) (by decide) (HLB.out 0 (by decide) _) (by decide)))) (by decide))
        have x0 : (0 : Int) ≤ x := by omega
        have x1 : (x : Int) < 16 := by omega
        clear hxs
        go_wp2_with (first
          | (go_at_call 36; (with_reducible refine (snodekey_in 1 2 1 (Lib.hid rfl) (by decide) (by decide) HA1.out HT1 0 (Lib.hid rfl) _ H10.out.st).mono ?_); rintro e w11 ⟨rfl, hb⟩; have hb' := hb.alloc hb.size (.cells #[.int .i64 2, .int .i64 1, .int .i64 0, .int .i64 0, .int .u32 2] 25 (0, 0)); have H11 := Lib.hid (H10.out.step hb'); have HR11 := Lib.hid (KeyC.new w11 2 1 0 0 2 25); have HP11 := Lib.hid (HP10.out.below hb'); clear hb hb')
          | (go_at_call 44; (with_reducible refine (pWalk_is 2 1 0 0 2 _ [1, 0] q s false 0 HWr _ H11.out.st).mono ?_); rintro e w12 ⟨rfl, hb⟩; have hb' := hb.alloc hb.size (.cells #[.int .i64 q, .int .i64 s, .bool false] 97 (0, 0)); have H12 := Lib.hid (H11.out.step hb'); have HR12 := Lib.hid (HR11.out.below hb'); have HP12 := Lib.hid (HP11.out.below hb'); have HQ12 := Lib.hid (PlC.new w12 q s false 97); have r0 := HR12.out.c0; have r1 := HR12.out.c1; have r2 := HR12.out.c2; have r3 := HR12.out.c3; have r4 := HR12.out.c4; clear hb hb')
          | (go_at_call 44; (with_reducible refine (pWalk_is 2 1 0 0 2 _ [1] 0 0 false 2 HWx _ H12.out.st).mono ?_); rintro e w13 ⟨rfl, hb⟩; clear r0 r1 r2 r3 r4; have hb' := hb.alloc hb.size (.cells #[.int .i64 0, .int .i64 0, .bool false] 97 (0, 0)); have H13 := Lib.hid (H12.out.step hb'); have HR13 := Lib.hid (HR12.out.below hb'); have HP13 := Lib.hid (HP12.out.below hb'); have HQ13 := Lib.hid (HQ12.out.below hb'); have r0 := HR13.out.c0; have r1 := HR13.out.c1; have r2 := HR13.out.c2; have r3 := HR13.out.c3; have r4 := HR13.out.c4; have a0 := HP13.out.c0; have a1 := HP13.out.c1; have a2 := HP13.out.c2; have b0 := HQ13.out.c0; have b1 := HQ13.out.c1; have b2 := HQ13.out.c2; clear hb hb')
          | (go_at_call 45; (with_reducible refine (pNodes_is 2 1 0 0 2 _ [1, 0] (Lib.hid (by decide)) 0 0 false 0 HWn _ H13.out.st).mono ?_); rintro e w14 ⟨v, rfl, hr, hb⟩; obtain ⟨va, vc, rfl⟩ := own_shape' hr; have H14 := Lib.hid (H13.out.step hb); clear hr hb))
        go_ret
        exact ⟨by simp, H14.out.bel⟩
theorem walk_PathFills (a0 : Int) (a1 : Int) (w : World) (w0 : (Lit.int .u32 a0).wf = true) (w1 : (Lit.int .i64 a1).wf = true) (hL : laidMetH Tryd.prog Rows.pathFillsRow.laid w) :
    Calls Tryd.prog 6 #[.int .u32 a0, .int .i64 a1] w fun e w' => e = .returned (.bool true) ∧ Below w.heap.size w w' := by
  obtain ⟨vs, vr, hE⟩ := (errs2 hL ⟨_, by repeat (first | exact List.Mem.head _ | apply List.Mem.tail)⟩ ⟨_, by repeat (first | exact List.Mem.head _ | apply List.Mem.tail)⟩)
  obtain ⟨ad, rfl⟩ := Int.eq_ofNat_of_zero_le (fit32 w0).1
  exact fills_walk ad a1 (by have := (fit32 w0).2; omega) w vs vr hE
end Go.Proofs.YtkhgnmgcdgjncaaDoor
