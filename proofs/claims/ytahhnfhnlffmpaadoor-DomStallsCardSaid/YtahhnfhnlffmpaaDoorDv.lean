/-
  package dom: domains, and who waits for whom (a row of queues): There, unstall, Stall, Callers, Wake.
-/
import Derived.Test.YtahhnfhnlffmpaaDoorQv3
namespace Go.Proofs.YtahhnfhnlffmpaaDoor.V
open Go.ChangeShapes Go.WideShapes Go.ChangeAt Go.RowKit Go.Maps
set_option linter.unusedVariables false
set_option linter.unusedSimpArgs false
/-- Of those blocks alone something changed; what they are now. -/
structure DFr (w w' : World) (A A' : Nat → Prop) : Prop where
  os : w'.os = w.os
  tape : w'.tape = w.tape
  output : w'.output = w.output
  size : w.heap.size ≤ w'.heap.size
  block : ∀ k, k < w.heap.size → ¬ A k → w'.heap[k]? = w.heap[k]? ∧ ¬ A' k
theorem DFr.refl (w : World) (A : Nat → Prop) : DFr w w A A := ⟨rfl, rfl, rfl, Nat.le_refl _, fun _ _ h => ⟨rfl, h⟩⟩
theorem DFr.trans {w w' w'' : World} {A A' A'' : Nat → Prop} (h : DFr w w' A A') (h2 : DFr w' w'' A' A'') : DFr w w'' A A'' :=
  ⟨h2.os.trans h.os, h2.tape.trans h.tape, h2.output.trans h.output, Nat.le_trans h.size h2.size, fun k hk hn => by
    have a := h.block k hk hn
    have c := h2.block k (Nat.lt_of_lt_of_le hk h.size) a.2
    exact ⟨c.1.trans a.1, c.2⟩⟩
theorem DFr.of_below {w w' : World} (h : Below w.heap.size w w') (A : Nat → Prop) : DFr w w' A A := ⟨h.os, h.tape, h.output, h.size, fun k hk hn => ⟨h.block k hk, hn⟩⟩
theorem DFr.below {w w' : World} {A A' : Nat → Prop} {B : Nat} (h : DFr w w' A A') (hS : ∀ k, A k → B ≤ k) (hB : B ≤ w.heap.size) : Below B w w' := ⟨h.os, h.tape, h.output, h.size, fun k hk => (h.block k (Nat.lt_of_lt_of_le hk hB) (fun hs => by have := hS k hs; omega)).1⟩
def updN {α : Type} (f : Nat → α) (i : Nat) (x : α) : Nat → α := fun j => if j = i then x else f j
theorem updN_same {α : Type} (f : Nat → α) (i : Nat) (x : α) : updN f i x i = x := by simp [updN]
theorem updN_other {α : Type} (f : Nat → α) (i j : Nat) (x : α) (h : j ≠ i) : updN f i x j = f j := by simp [updN, h]
/-- A row of n queues at block Q. -/
structure QS (w : World) (base Q n b : Nat) (L : Nat → List Int) (S : Nat → Nat → Prop) : Prop where
  q : ∀ i, i < n → VI w base Q (i * 2) b (L i) (S i)
  ap : ∀ i j k, i < n → j < n → i ≠ j → S i k → S j k → k = Q
/-- Their blocks. -/
def QB (Q n : Nat) (S : Nat → Nat → Prop) : Nat → Prop := fun k => k = Q ∨ ∃ i, i < n ∧ S i k
section
variable {w w' : World} {base Q n b b' : Nat} {L : Nat → List Int} {S : Nat → Nat → Prop}
theorem QS.lo (h : QS w base Q n b L S) : ∀ k, QB Q n S k → k = Q ∨ base ≤ k := by
  rintro k (e | ⟨i, hi, hs⟩)
  · exact .inl e
  · exact (h.q i hi).lo k hs
theorem QS.hi (h : QS w base Q n b L S) (hq : Q < w.heap.size) : ∀ k, QB Q n S k → k < w.heap.size := by
  rintro k (e | ⟨i, hi, hs⟩)
  · rw [e]; exact hq
  · exact (h.q i hi).hi k hs
theorem QS.same (h : QS w base Q n b L S) (hb : ∀ k, QB Q n S k → w'.heap[k]? = w.heap[k]?) : QS w' base Q n b L S :=
  ⟨fun i hi => (h.q i hi).same (fun j _ => same_cells (hb Q (.inl rfl)) j) (fun k hk _ => hb k (.inr ⟨i, hi, hk⟩)), h.ap⟩
theorem QS.below (h : QS w base Q n b L S) (hb : Below w.heap.size w w') : QS w' base Q n b L S := ⟨fun i hi => (h.q i hi).below hb, h.ap⟩
theorem QS.more (h : QS w base Q n b L S) (hb : b ≤ b') : QS w base Q n b' L S := ⟨fun i hi => (h.q i hi).more hb, h.ap⟩
/-- One of the queues changed. -/
theorem QS.turn (h : QS w base Q n b L S) (i : Nat) (hi : i < n) {l' : List Int} {S' : Nat → Prop} (hv : VI w' base Q (i * 2) b' l' S') (hf : VFr Q (i * 2) w w' (S i) S') (hb : b ≤ b') :
    QS w' base Q n b' (updN L i l') (updN S i S') ∧ DFr w w' (QB Q n S) (QB Q n (updN S i S')) := by
  have hS' : ∀ j k, j < n → j ≠ i → S j k → k ≠ Q → w'.heap[k]? = w.heap[k]? ∧ ¬ S' k := fun j k hj hne hk hq =>
    hf.block k ((h.q j hj).hi k hk) (fun hs => hq (h.ap i j k hi hj (fun e => hne e.symm) hs hk))
  refine ⟨⟨fun j hj => ?_, fun j j2 k hj hj2 hne hs hs2 => ?_⟩, hf.os, hf.tape, hf.output, hf.size, fun k hk hn => ?_⟩
  · by_cases e : j = i
    · subst e
      rw [updN_same, updN_same]
      exact hv
    · rw [updN_other _ _ _ _ e, updN_other _ _ _ _ e]
      exact ((h.q j hj).same (fun o ho => hf.rest o (by rcases ho with rfl | rfl <;> omega) (by rcases ho with rfl | rfl <;> omega)) (fun k hk hq => (hS' j k hj e hk hq).1)).more hb
  · by_cases e : j = i
    · subst e
      rw [updN_same] at hs
      rw [updN_other _ _ _ _ (fun e => hne e.symm)] at hs2
      exact Classical.byContradiction fun hq => (hS' j2 k hj2 (fun e => hne e.symm) hs2 hq).2 hs
    · rw [updN_other _ _ _ _ e] at hs
      by_cases e2 : j2 = i
      · subst e2
        rw [updN_same] at hs2
        exact Classical.byContradiction fun hq => (hS' j k hj e hs hq).2 hs2
      · rw [updN_other _ _ _ _ e2] at hs2
        exact h.ap j j2 k hj hj2 hne hs hs2
  · have a := hf.block k hk (fun hs => hn (.inr ⟨i, hi, hs⟩))
    refine ⟨a.1, ?_⟩
    rintro (e | ⟨j, hj, hs⟩)
    · exact hn (.inl e)
    · by_cases e : j = i
      · subst e
        rw [updN_same] at hs
        exact a.2 hs
      · rw [updN_other _ _ _ _ e] at hs
        exact hn (.inr ⟨j, hj, hs⟩)
end
/-- Domains at block P, as Stall, Callers and Wake see them: their arena, their queues. -/
structure DvAt (w : World) (base P p B Q n c : Nat) (th : Nat → Bool) (vr : Nat → Int) (base2 b : Nat) (L : Nat → List Int) (S : Nat → Nat → Prop) : Prop where
  f0 : w.cell? ⟨P, 0, none⟩ = some (.pointer (some ⟨p, 0, none⟩))
  f2 : w.cell? ⟨P, 2, none⟩ = some (.slice (some ⟨Q, 0, none⟩) n n)
  ar : ArAt w base p B n c th vr
  qs : QS w base2 Q n b L S
  lt : P < base2 ∧ p < base2 ∧ B < base2 ∧ Q < base2
  ne : P ≠ Q ∧ p ≠ Q ∧ B ≠ Q
  sz : base2 ≤ w.heap.size
section
variable {w w' : World} {base P p B Q n c base2 b b' : Nat} {th : Nat → Bool} {vr_ : Nat → Int} {L L' : Nat → List Int} {S S' : Nat → Nat → Prop}
theorem ar_same (h : ArAt w base p B n c th vr_) (hs : w.heap.size ≤ w'.heap.size) (hp : w'.heap[p]? = w.heap[p]?) (hB : w'.heap[B]? = w.heap[B]?) : ArAt w' base p B n c th vr_ :=
  ⟨Nat.lt_of_lt_of_le h.pl hs, h.pb, (World.cell?_of_block (a := ⟨p, 0, none⟩) hp).trans h.fld, own_same h.own (fun g hg => by simp [Value.ownBlock] at hg; rw [← hg]; exact hB), h.ne, h.le⟩
theorem DvAt.below (h : DvAt w base P p B Q n c th vr_ base2 b L S) (hb : Below w.heap.size w w') : DvAt w' base P p B Q n c th vr_ base2 b L S := by
  have hs := h.sz
  have hl := h.lt
  exact ⟨(hb.cell (p := ⟨P, 0, none⟩) (by show P < _; omega)).trans h.f0, (hb.cell (p := ⟨P, 2, none⟩) (by show P < _; omega)).trans h.f2, h.ar.below hb, h.qs.below hb, h.lt, h.ne, Nat.le_trans h.sz hb.size⟩
theorem DvAt.turn (h : DvAt w base P p B Q n c th vr_ base2 b L S) (hq : QS w' base2 Q n b' L' S') (hf : DFr w w' (QB Q n S) (QB Q n S')) : DvAt w' base P p B Q n c th vr_ base2 b' L' S' := by
  have hs := h.sz
  have hl := h.lt
  have hne := h.ne
  have hk : ∀ k, k < base2 → k ≠ Q → w'.heap[k]? = w.heap[k]? := fun k hk hn => (hf.block k (by omega) (fun hs => by rcases h.qs.lo k hs with e | e; exact hn e; omega)).1
  exact ⟨(World.cell?_of_block (a := ⟨P, 0, none⟩) (hk P hl.1 hne.1)).trans h.f0, (World.cell?_of_block (a := ⟨P, 2, none⟩) (hk P hl.1 hne.1)).trans h.f2, ar_same h.ar hf.size (hk p hl.2.1 hne.2.1) (hk B hl.2.2.1 hne.2.2), hq, h.lt, h.ne, Nat.le_trans h.sz hf.size⟩
end
/-- The queues, the first k without x. -/
def offK (L : Nat → List Int) (x : Int) (k : Nat) : Nat → List Int := fun i => if i < k then offI (L i) x else L i
theorem offK_zero (L : Nat → List Int) (x : Int) : offK L x 0 = L := by funext i; simp [offK]
theorem offK_at (L : Nat → List Int) (x : Int) (k : Nat) : offK L x k k = L k := by simp [offK]
theorem offK_succ (L : Nat → List Int) (x : Int) (k : Nat) : updN (offK L x k) k (offI (L k) x) = offK L x (k + 1) := by
  funext i
  unfold updN offK
  by_cases e : i = k
  · subst e; simp
  · rw [if_neg e]
    by_cases h : i < k
    · rw [if_pos h, if_pos (by omega)]
    · rw [if_neg h, if_neg (by omega)]
set_option maxRecDepth 100000 in
theorem dv_unstall {base P p B Q n c base2 b : Nat} {th : Nat → Bool} {vr_ : Nat → Int} {L : Nat → List Int} {S : Nat → Nat → Prop} (x : Int) (hx : wfI x) (hm : ∀ i, i < n → (L i).length ≤ 1000) (w : World) (h : DvAt w base P p B Q n c th vr_ base2 b L S) :
    Calls Tryd.prog 65 #[.pointer (some ⟨P, 0, none⟩), .int .i64 x] w fun e w' => ∃ S', e = .returned (.tuple #[]) ∧ DvAt w' base P p B Q n c th vr_ base2 b (offK L x n) S' ∧ DFr w w' (QB Q n S) (QB Q n S') := by
  have H := Lib.hid h
  have f2 := h.f2
  have hn := h.ar.le
  have HM := Lib.hid hm
  clear h hm
  go_enter Tryd.func65, Tryd.ntmps65
  go_wp2_with fail
  clear f2
  go_loopw [10] (fun i wr => ∃ (k : Nat) (S' : Nat → Nat → Prop), k ≤ n ∧ i = .int .i64 k ∧ DvAt wr base P p B Q n c th vr_ base2 b (offK L x k) S' ∧ DFr w wr (QB Q n S) (QB Q n S')) (fun i _ => n - (intOf i).toNat)
  case atStart => exact ⟨0, S, by omega, rfl, by rw [offK_zero]; exact H.out, DFr.refl _ _⟩
  case round =>
    obtain ⟨k, S1, hk, rfl, hD, hF⟩ := hrel
    have HD := Lib.hid hD
    have HF := Lib.hid hF
    by_cases hlt : k < n
    · have hq := hD.qs.q k hlt
      rw [offK_at] at hq
      have HQ := Lib.hid hq
      have f2 := hD.f2
      have k0 : (0 : Int) ≤ k := by omega
      have k1 : (k : Int) < n := by omega
      clear hD hF hq
      go_wp2_with (first | (go_at_call 86; (with_reducible refine (vdrop_is x hx (HM.out k hlt) _ HQ.out).mono ?_); rintro e w1 ⟨t, S2, rfl, hv, hf⟩; have ht := HD.out.qs.turn k hlt hv hf (Nat.le_refl _); rw [offK_succ] at ht; have HD2 := Lib.hid (HD.out.turn ht.1 ht.2); have HF2 := Lib.hid (HF.out.trans ht.2); clear hv hf ht f2))
      go_roundw
      case rel => exact ⟨k + 1, _, by omega, by go_num, HD2.out, HF2.out⟩
      case measure => simp [intOf]; omega
    · obtain rfl : k = n := by omega
      have hdd : decide (k < k) = false := by simp
      clear hD hF
      go_wp2_with fail
      go_end0
      exact ⟨S1, rfl, HD.out, HF.out⟩
/-- Who begins to wait. -/
def stallL (L : Nat → List Int) (n a : Nat) (x : Int) : Nat → List Int := updN (offK L x n) a (offI (L a) x ++ [x])
theorem putAll_one (l : List Int) (x : Int) (h : l.contains x = false) : putAll l [x] = l ++ [x] := by
  unfold putAll
  simp only [List.foldl_cons, List.foldl_nil]
  rw [if_neg (by rw [h]; simp)]
theorem offI_not (l : List Int) (x : Int) : (offI l x).contains x = false := by
  rw [← Bool.not_eq_true, List.contains_iff_mem]
  intro h
  simp [offI] at h
theorem src1 (w : World) (x : Int) (hx : wfI x) (t : TypeId) (S : Nat → Prop) (hS : ¬ S w.heap.size) : Src (w.alloc (.cells #[.int .i64 x] t)) (some ⟨w.heap.size, 0, none⟩) [x] S := by
  refine ⟨by simpa using hx, fun _ => ⟨_, rfl, by simp, hS, fun i hi => ?_⟩⟩
  match i, hi with
  | 0, _ => simp [Addr.add, List.getD]
theorem vput_one {w : World} {base q o b : Nat} {l : List Int} {S : Nat → Prop} (h : VI w base q o b l S) (hB : base ≤ w.heap.size) (x : Int) (hx : wfI x) (t : TypeId) (hin : l.contains x = false) (hl : l.length ≤ 100000) (hb : b ≤ 100000) :
    Calls Tryd.prog 66 #[.pointer (some ⟨q, o, none⟩), .slice (some ⟨w.heap.size, 0, none⟩) 1 1] (w.alloc (.cells #[.int .i64 x] t)) fun e w' => ∃ r S', e = .returned (.int .i64 r) ∧ VI w' base q o (b + 1) (l ++ [x]) S' ∧ VFr q o w w' S S' := by
  have hbl : Below w.heap.size w (w.alloc (.cells #[.int .i64 x] t)) := (Below.refl _ _).alloc (Nat.le_refl _) _
  refine (qput_is _ 1 1 [x] (Lib.hid rfl) (by omega) hl hb _ (Lib.hid rfl) _ (h.below hbl) (src1 w x hx t S (fun hs => by have := h.hi _ hs; omega)) (by simp; omega)).mono fun e w' ⟨S', he, hq, hf⟩ => ⟨_, S', he, ?_, (VFr.of_below hbl h.lt _).trans hf⟩
  rw [putAll_one l x hin] at hq
  exact hq
set_option maxRecDepth 100000 in
theorem dv_stall {base P p B Q n c base2 b : Nat} {th : Nat → Bool} {vr_ : Nat → Int} {L : Nat → List Int} {S : Nat → Nat → Prop} (a i : Nat) (ha : a < n) (hi : i < n) (hta : Hid (th a = true)) (hti : Hid (th i = true)) (t : Bool) (ht : Hid ((L a).contains (i : Int) = t)) (hb : b ≤ 1000) (hm : ∀ i, i < n → (L i).length ≤ 1000) (w : World) (h : DvAt w base P p B Q n c th vr_ base2 b L S) :
    Calls Tryd.prog 27 #[.pointer (some ⟨P, 0, none⟩), .int .i64 (a : Int), .int .i64 (i : Int)] w fun e w' => ∃ S', e = .returned (.bool (!t)) ∧ DvAt w' base P p B Q n c th vr_ base2 (b + 1) (if t = true then L else stallL L n a (i : Int)) S' ∧ DFr w w' (QB Q n S) (QB Q n S') := by
  have H := Lib.hid h
  have hn := h.ar.le
  have hx : wfI (i : Int) := wfI.mk (by omega) (by omega)
  have HM := Lib.hid hm
  have a0 : (0 : Int) ≤ a := by omega
  have a1 : (a : Int) < n := by omega
  have f0 := h.f0
  have f2 := h.f2
  clear h hm
  cases t
  · have HO := Lib.hid (offI_no (L a) (i : Int) ht.out)
    go_enter Tryd.func27, Tryd.ntmps27
    go_wp2_with (first
      | (go_at_call 21; (with_reducible refine (athere_in a ha true hta _ H.out.ar).mono ?_); rintro e w1 ⟨rfl, rfl⟩)
      | (go_at_call 21; (with_reducible refine (athere_in i hi true hti _ H.out.ar).mono ?_); rintro e w1 ⟨rfl, rfl⟩)
      | (go_at_call 64; (with_reducible refine (qhas_is (i : Int) hx false ht _ (H.out.qs.q a ha)).mono ?_); rintro e w1 ⟨rfl, hb1⟩; have HB1 := Lib.hid hb1; have H1 := Lib.hid (H.out.below hb1); clear hb1 f0 f2)
      | (go_at_call 65; (with_reducible refine (dv_unstall (i : Int) hx HM.out _ H1.out).mono ?_); rintro e w2 ⟨S2, rfl, h2, d2⟩; have H2 := Lib.hid h2; have HF2 := Lib.hid ((DFr.of_below HB1.out _).trans d2); have f2 := h2.f2; clear h2 d2)
      | (go_at_call 66; (with_reducible refine (vput_one (H2.out.qs.q a ha) H2.out.sz (i : Int) hx _ (by rw [offK, if_pos ha]; exact offI_not _ _) (by rw [offK, if_pos ha]; exact Nat.le_trans (List.length_filter_le _ _) (by have := HM.out a ha; omega)) (by omega)).mono ?_); rintro e w3 ⟨r, S3, rfl, hv, hf⟩; have ht3 := H2.out.qs.turn a ha hv hf (by omega); have H3 := Lib.hid (H2.out.turn ht3.1 ht3.2); have HF3 := Lib.hid (HF2.out.trans ht3.2); clear hv hf ht3 f2))
    go_ret
    refine ⟨rfl, _, ?_, HF3.out⟩
    have h3 := H3.out
    rw [show offK L (i : Int) n a = offI (L a) (i : Int) by simp [offK, ha]] at h3
    exact h3
  · go_enter Tryd.func27, Tryd.ntmps27
    go_wp2_with (first
      | (go_at_call 21; (with_reducible refine (athere_in a ha true hta _ H.out.ar).mono ?_); rintro e w1 ⟨rfl, rfl⟩)
      | (go_at_call 21; (with_reducible refine (athere_in i hi true hti _ H.out.ar).mono ?_); rintro e w1 ⟨rfl, rfl⟩)
      | (go_at_call 64; (with_reducible refine (qhas_is (i : Int) hx true ht _ (H.out.qs.q a ha)).mono ?_); rintro e w1 ⟨rfl, hb1⟩; have HB1 := Lib.hid hb1; have H1 := Lib.hid (H.out.below hb1); clear hb1 f0 f2))
    go_ret
    have h1 := H1.out
    exact ⟨rfl, S, ⟨h1.f0, h1.f2, h1.ar, h1.qs.more (by omega), h1.lt, h1.ne, h1.sz⟩, DFr.of_below HB1.out _⟩
set_option maxRecDepth 100000 in
theorem dv_callers {base P p B Q n c base2 b : Nat} {th : Nat → Bool} {vr_ : Nat → Int} {L : Nat → List Int} {S : Nat → Nat → Prop} (a m : Nat) (ha : a < n) (hta : Hid (th a = true)) (hm : Hid ((L a).length = m)) (hl : m ≤ 1000) (w : World) (h : DvAt w base P p B Q n c th vr_ base2 b L S) :
    Calls Tryd.prog 29 #[.pointer (some ⟨P, 0, none⟩), .int .i64 (a : Int)] w fun e w' => ∃ ad cp, e = .returned (.slice ad m cp) ∧ w'.ownsRow w.heap.size 3 1 (.slice ad m cp) m ((L a).map (Value.int .i64)) ∧ Below w.heap.size w w' := by
  have H := Lib.hid h
  have hn := h.ar.le
  have a0 : (0 : Int) ≤ a := by omega
  have a1 : (a : Int) < n := by omega
  have f0 := h.f0
  have f2 := h.f2
  clear h
  go_enter Tryd.func29, Tryd.ntmps29
  go_wp2_with (first
    | (go_at_call 21; (with_reducible refine (athere_in a ha true hta _ H.out.ar).mono ?_); rintro e w1 ⟨rfl, rfl⟩)
    | (go_at_call 67; (with_reducible refine (qall_is hm (by omega) _ (H.out.qs.q a ha)).mono ?_); rintro e w1 ⟨ad, cp, rfl, hr, hb⟩; have HR := Lib.hid hr; have HB := Lib.hid hb; clear hr hb))
  go_ret
  exact ⟨ad, cp, rfl, HR.out, HB.out⟩
theorem VI.cells {w : World} {base q o b : Nat} {l : List Int} {S : Nat → Prop} (h : VI w base q o b l S) : ∃ v m, w.cell? ⟨q, o, none⟩ = some v ∧ w.cell? ⟨q, o + 1, none⟩ = some m ∧ w.frozen? ⟨q, o, none⟩ = false ∧ w.frozen? ⟨q, o + 1, none⟩ = false := by
  rcases h with ⟨h1, rfl, rfl⟩ | ⟨v, M, D, h, rfl⟩
  · exact ⟨_, _, h1.c0, h1.c1, h1.f0, h1.f1⟩
  · exact ⟨_, _, h.c0, h.c1, h.f0, h.f1⟩
/-- A queue that is laid anew. -/
theorem VI.cleared {w : World} {base q o b : Nat} {l : List Int} {S : Nat → Prop} (h : VI w base q o b l S) :
    VI ((w.setCell ⟨q, o, none⟩ (.slice none 0 0)).setCell ⟨q, o + 1, none⟩ (.map none)) base q o b [] (SN q) ∧ VFr q o w ((w.setCell ⟨q, o, none⟩ (.slice none 0 0)).setCell ⟨q, o + 1, none⟩ (.map none)) S (SN q) := by
  obtain ⟨v, m, h0, h1, f0, f1⟩ := h.cells
  refine ⟨.inl ⟨⟨(cs_other (addr_ne1 q o)).trans (cs_same h0), cs_same ((cs_other (addr_ne0 q o)).trans h1), fz_set.trans (fz_set.trans f0), fz_set.trans (fz_set.trans f1)⟩, rfl, rfl⟩, ?_⟩
  refine ((VFr.of_set w q o o _ (.inl rfl) S h.mem).trans (VFr.of_set _ q o (o + 1) _ (.inr rfl) S h.mem)).turn fun k hk hn e => ?_
  rw [show k = q from e] at hn
  exact hn h.mem
set_option maxRecDepth 100000 in
theorem dv_wake {base P p B Q n c base2 b : Nat} {th : Nat → Bool} {vr_ : Nat → Int} {L : Nat → List Int} {S : Nat → Nat → Prop} (a m : Nat) (ha : a < n) (hta : Hid (th a = true)) (hm : Hid ((L a).length = m)) (hl : m ≤ 1000) (w : World) (h : DvAt w base P p B Q n c th vr_ base2 b L S) :
    Calls Tryd.prog 30 #[.pointer (some ⟨P, 0, none⟩), .int .i64 (a : Int)] w fun e w' => ∃ ad cp S', e = .returned (.slice ad m cp) ∧ w'.ownsRow w.heap.size 3 1 (.slice ad m cp) m ((L a).map (Value.int .i64)) ∧ DvAt w' base P p B Q n c th vr_ base2 b (updN L a []) S' ∧ DFr w w' (QB Q n S) (QB Q n S') := by
  have H := Lib.hid h
  have hn := h.ar.le
  have hs := h.sz
  have hql := h.lt.2.2.2
  have a0 : (0 : Int) ≤ a := by omega
  have a1 : (a : Int) < n := by omega
  by_cases hm0 : m = 0
  · subst hm0
    have hL : updN L a [] = L := by
      funext j
      unfold updN
      split
      · rename_i e; subst e; exact (List.length_eq_zero_iff.1 hm.out).symm
      · rfl
    have HL := Lib.hid hL
    clear h hL
    go_enter Tryd.func30, Tryd.ntmps30
    go_wp2_with (first
      | (go_at_call 29; (with_reducible refine (dv_callers a 0 ha hta hm hl _ H.out).mono ?_); rintro e w1 ⟨ad, cp, rfl, hr, hb⟩; have HR := Lib.hid hr; have HB := Lib.hid hb; clear hr hb))
    go_ret
    exact ⟨ad, cp, S, rfl, HR.out, by rw [HL.out]; exact H.out.below HB.out, DFr.of_below HB.out _⟩
  · have hp : (0 : Int) < (m : Int) := by omega
    clear h
    go_enter Tryd.func30, Tryd.ntmps30
    go_wp2_with (first
      | (go_at_call 29; (with_reducible refine (dv_callers a m ha hta hm hl _ H.out).mono ?_); rintro e w1 ⟨ad, cp, rfl, hr, hb⟩; have HR := Lib.hid hr; have HB := Lib.hid hb; have H1 := Lib.hid (H.out.below hb); obtain ⟨v9, m9, c0, c1, f0, f1⟩ := (H1.out.qs.q a ha).cells; have f2 := H1.out.f2; clear hr hb))
    go_ret
    have hc := (H1.out.qs.q a ha).cleared
    have ht := H1.out.qs.turn a ha hc.1 hc.2 (Nat.le_refl _)
    refine ⟨ad, cp, _, rfl, ?_, H1.out.turn ht.1 ht.2, (DFr.of_below HB.out _).trans ht.2⟩
    have hne : (Value.slice ad m cp).ownBlock ≠ some Q := fun e => by have := (HR.out.lt Q e).1; omega
    exact ownsRow_setCell_other (ownsRow_setCell_other HR.out (a := ⟨Q, a * 2, none⟩) hne _) (a := ⟨Q, a * 2 + 1, none⟩) hne _
end Go.Proofs.YtahhnfhnlffmpaaDoor.V
