/-
  Vi, Vj, Vk as one.
-/
import Derived.Test.YtjkbfhojjjkgnaaDoorP15
namespace Go.Proofs.YtjkbfhojjjkgnaaDoor
open Go.ChangeShapes Go.WideShapes Go.ChangeAt Go.RowKit
set_option linter.unusedVariables false
set_option linter.unusedSimpArgs false
/-- A key's cells in a row of keys. -/
def kyL (K : Nat → Nat → Int) (j : Nat) : List Value := k5 (K j 0) (K j 1) (K j 2) (K j 3) (K j 4)
/-- Three keys in a row, round the end. -/
def sentA (K : Nat → Nat → Int) (fr : Nat) : Array Value := (kyL K (fr % 16) ++ kyL K ((fr + 1) % 16) ++ kyL K ((fr + 2) % 16)).toArray
theorem sentA_size (K : Nat → Nat → Int) (fr : Nat) : (sentA K fr).size = 15 := rfl
theorem sentA_one (K : Nat → Nat → Int) (fr : Nat) : (sentA K fr).all (·.oneCell') = true := by simp [sentA, kyL, k5, Value.oneCell']
theorem infoSent : (Tryd.prog.info? 32).map (·.size) = some 15 := by kernel_rfl
theorem sent_range {w : World} {x : Nat} {K : Nat → Nat → Int} {fr : Nat} (h : ∀ j, j < 3 → InO w x (j * 5) (K ((fr + j) % 16) 0) (K ((fr + j) % 16) 1) (K ((fr + j) % 16) 2) (K ((fr + j) % 16) 3) (K ((fr + j) % 16) 4)) : w.rangeAt x 0 (sentA K fr).toList := by
  have h0 := h 0 (by decide)
  have h1 := h 1 (by decide)
  have h2 := h 2 (by decide)
  intro j u hj
  have hl : j < 15 := by
    have := (List.getElem?_eq_some_iff.1 hj).1
    simpa [sentA_size] using this
  have h15 : j = 0 ∨ j = 1 ∨ j = 2 ∨ j = 3 ∨ j = 4 ∨ j = 5 ∨ j = 6 ∨ j = 7 ∨ j = 8 ∨ j = 9 ∨ j = 10 ∨ j = 11 ∨ j = 12 ∨ j = 13 ∨ j = 14 := by omega
  rcases h15 with rfl | rfl | rfl | rfl | rfl | rfl | rfl | rfl | rfl | rfl | rfl | rfl | rfl | rfl | rfl <;> (simp [sentA, kyL, k5] at hj; subst hj)
  · exact h0.1
  · exact h0.2.1
  · exact h0.2.2.1
  · exact h0.2.2.2.1
  · exact h0.2.2.2.2
  · exact h1.1
  · exact h1.2.1
  · exact h1.2.2.1
  · exact h1.2.2.2.1
  · exact h1.2.2.2.2
  · exact h2.1
  · exact h2.2.1
  · exact h2.2.2.1
  · exact h2.2.2.2.1
  · exact h2.2.2.2.2
theorem InO.out {w : World} {g o : Nat} {y0 y1 y2 y3 y4 : Int} (h : InO w g o y0 y1 y2 y3 y4) (o2 : Nat) (cs : List Value) (ha : o + 4 < o2 ∨ o2 + cs.length ≤ o) : InO (w.setCells g o2 cs) g o y0 y1 y2 y3 y4 :=
  ⟨(World.cell?_setCells_out g cs o2 w ⟨g, o, none⟩ (fun _ _ => by simp only at *; omega)).trans h.1, (World.cell?_setCells_out g cs o2 w ⟨g, o + 1, none⟩ (fun _ _ => by simp only at *; omega)).trans h.2.1, (World.cell?_setCells_out g cs o2 w ⟨g, o + 2, none⟩ (fun _ _ => by simp only at *; omega)).trans h.2.2.1, (World.cell?_setCells_out g cs o2 w ⟨g, o + 3, none⟩ (fun _ _ => by simp only at *; omega)).trans h.2.2.2.1, (World.cell?_setCells_out g cs o2 w ⟨g, o + 4, none⟩ (fun _ _ => by simp only at *; omega)).trans h.2.2.2.2⟩
theorem InO.in_ (w : World) (g o : Nat) (y0 y1 y2 y3 y4 : Int) (ht : World.there w g o 5) : InO (w.setCells g o (k5 y0 y1 y2 y3 y4)) g o y0 y1 y2 y3 y4 := by
  have hr := World.rangeAt_setCells_same w g o (k5 y0 y1 y2 y3 y4) ht
  exact ⟨hr 0 _ rfl, hr 1 _ rfl, hr 2 _ rfl, hr 3 _ rfl, hr 4 _ rfl⟩
theorem dom_of_array {w : World} {cs : Array Value} {f : Nat → Value} (hs : cs.size = 107) (h : ∀ j, j < 107 → cs.toList[j]? = some (f j)) (T : TypeId) : DomAt (w.alloc (.cells cs T (0, 0))) w.heap.size f := by
  refine ⟨by simp, fun j hj => ?_, fun j => by simp⟩
  have := h j hj
  simp at this
  simp [this]
set_option maxRecDepth 100000 in
set_option maxHeartbeats 4000000 in
theorem csent_is (cs : Array Value) (f : Nat → Value) (K : Nat → Nat → Int) (hcs : Hid (cs.size = 107 ∧ ∀ j, j < 107 → cs.toList[j]? = some (f j))) (hk : Hid (∀ j, j < 16 → KF f j (K j 0) (K j 1) (K j 2) (K j 3) (K j 4))) (fr : Nat) (hfr : fr < 16) (w : World) :
    Calls Tryd.prog 12 #[.agg cs, .int .i64 fr] w fun e w' => e = .returned (.agg (sentA K fr)) ∧ Below w.heap.size w w' := by
  have f0 : (0 : Int) ≤ fr := by omega
  have f1 : (fr : Int) < 16 := by omega
  have HFr := Lib.hid hfr
  clear hfr
  go_enter Tryd.func12, Tryd.ntmps12
  go_upto_region 1 with fail
  generalize hA : World.alloc (World.alloc w _) _ = wA
  have HA : Hid (Below w.heap.size w wA ∧ DomAt wA w.heap.size f ∧ World.there wA (w.heap.size + 1) 0 15 ∧ wA.heap.size = w.heap.size + 2) := Lib.hid (by rw [← hA]; exact ⟨((Below.refl _ _).alloc (Nat.le_refl _) _).alloc (by simp) _, (dom_of_array hcs.out.1 hcs.out.2 _).below ((Below.refl _ _).alloc (Nat.le_refl _) _), there_new2 _ _ _ _ (by rfl) _, by simp⟩)
  clear hA
  go_upto_region 2 with fail
  generalize hA : World.alloc wA _ = wB
  have HB : Hid (Below w.heap.size w wB ∧ DomAt wB w.heap.size f ∧ World.there wB (w.heap.size + 1) 0 15 ∧ World.there wB wA.heap.size 0 15) := Lib.hid (by rw [← hA]; exact ⟨HA.out.1.alloc HA.out.1.size _, HA.out.2.1.below ((Below.refl _ _).alloc (Nat.le_refl _) _), there_same HA.out.2.2.1 (((Below.refl _ _).alloc (Nat.le_refl _) _ : Below wA.heap.size wA _).block _ (by have := HA.out.2.2.2; omega)), there_new _ _ _ (by rfl) _⟩)
  have HAz : Hid (wA.heap.size = w.heap.size + 2) := Lib.hid HA.out.2.2.2
  clear hA HA
  go_upto_region 5 with fail
  go_loopw [14] (fun ti wr => ∃ k : Nat, ti = .int .i64 k ∧ k ≤ 3 ∧ Below w.heap.size w wr ∧ DomAt wr w.heap.size f ∧ World.there wr (w.heap.size + 1) 0 15 ∧ World.there wr wA.heap.size 0 15 ∧ ∀ j, j < k → InO wr wA.heap.size (j * 5) (K ((fr + j) % 16) 0) (K ((fr + j) % 16) 1) (K ((fr + j) % 16) 2) (K ((fr + j) % 16) 3) (K ((fr + j) % 16) 4)) (fun i _ => 3 - (intOf i).toNat)
  case atStart => exact ⟨0, rfl, by decide, HB.out.1, HB.out.2.1, HB.out.2.2.1, HB.out.2.2.2, fun j hj => absurd hj (Nat.not_lt_zero j)⟩
  case round =>
    obtain ⟨k, rfl, hk3, hb, hd, ht1, ht2, hin⟩ := hrel
    have HBw := Lib.hid hb
    have HDw := Lib.hid hd
    have HT1 := Lib.hid ht1
    have HT2 := Lib.hid ht2
    have HIn := Lib.hid hin
    clear hb hd ht1 ht2 hin
    by_cases hlt : k < 3
    · have k0 : (0 : Int) ≤ k := by omega
      have k1 : (k : Int) < 3 := by omega
      obtain ⟨r, hr⟩ : ∃ r, r = (fr + k) % 16 := ⟨_, rfl⟩
      have hrl : r < 16 := by omega
      have hri : ((fr : Int) + k) % 16 = (r : Int) := by omega
      have hrt : ((fr : Int) + k).tmod 16 = (r : Int) := by rw [Int.tmod_eq_emod_of_nonneg (by omega)]; exact hri
      have HRr := Lib.hid hr
      clear hr
      have r0 : (0 : Int) ≤ r := by omega
      have r1 : (r : Int) < 16 := by omega
      obtain ⟨q0, q1, q2, q3, q4⟩ := HDw.out.keys hk.out r hrl
      have HTk : Hid (World.there wr wA.heap.size (k * 5) 5) := Lib.hid (fun j hj => by have := HT2.out (k * 5 + j) (by omega); simpa using this)
      go_upto_region 8 with (refine wpList_store_mid (by rfl) _ _ _ (by rfl) wA.heap.size (k * 5) #[.int .i64 (K r 0), .int .i64 (K r 1), .int .i64 (K r 2), .int .i64 (K r 3), .int .u32 (K r 4)] (by rfl) (by rfl) HTk.out infoKey5 (by simp [Value.oneCell']) ?_; rw [show (#[.int .i64 (K r 0), .int .i64 (K r 1), .int .i64 (K r 2), .int .i64 (K r 3), .int .u32 (K r 4)] : Array Value).toList = k5 (K r 0) (K r 1) (K r 2) (K r 3) (K r 4) from rfl])
      go_wp2_with fail
      go_roundw
      case rel =>
        have hz := HAz.out
        refine ⟨k + 1, by go_num, by omega, below_cells HBw.out (by omega) _ _, HDw.out.same (by rw [size_setCells]; exact Nat.le_refl _) (heap_setCells _ _ (by omega) _ _ _), there_same HT1.out (heap_setCells _ _ (by omega) _ _ _), World.there_setCells HT2.out _ _ _, fun j hj => ?_⟩
        by_cases e : j = k
        · subst e
          rw [← HRr.out]
          exact InO.in_ _ _ _ _ _ _ _ _ HTk.out
        · exact (HIn.out j (by omega)).out _ _ (.inl (by omega))
      case measure => simp [intOf]; omega
    · obtain rfl : k = 3 := by omega
      have HRs := Lib.hid (sent_range (K := K) (fr := fr) (fun j hj => HIn.out j hj))
      go_wp2_with (first
        | (refine wpList_load_mid (by rfl) _ _ (by rfl) wA.heap.size 0 (by rfl) (sentA K fr).toList _ HRs.out Tryd.underlying32 rfl (by rw [Array.length_toList, sentA_size]; exact infoSent) ?_; rw [show (sentA K fr).toList.toArray = sentA K fr from by simp])
        | (refine wpList_store_mid (by rfl) _ _ _ (by rfl) (w.heap.size + 1) 0 (sentA K fr) (by rfl) (by rfl) (by rw [sentA_size]; exact HT1.out) (by rw [sentA_size]; exact infoSent) (sentA_one K fr) ?_))
      have hld := run_loadVar_mid (P := Tryd.prog) (wr.setCells (w.heap.size + 1) 0 (sentA K fr).toList) (w.heap.size + 1) 0 32 (sentA K fr).toList _ (World.rangeAt_setCells_same wr (w.heap.size + 1) 0 (sentA K fr).toList (by rw [Array.length_toList, sentA_size]; exact HT1.out)) Tryd.underlying32 rfl (by rw [Array.length_toList, sentA_size]; exact infoSent)
      refine bodyPost_ret (v := .agg (sentA K fr)) (results_ev Tryd.results12 _ _ _ _ _ (by rfl) (by simpa using hld)) rfl ⟨rfl, ?_⟩
      exact below_cells HBw.out (by omega) _ _
end Go.Proofs.YtjkbfhojjjkgnaaDoor
namespace Go.Proofs.YtjkbfhojjjkgnaaDoor
open Go.ChangeShapes Go.WideShapes Go.ChangeAt Go.RowKit
set_option linter.unusedVariables false
set_option linter.unusedSimpArgs false
/-- A note of registers and keys. -/
def noteA (o x1 x2 x3 : Int) (Y : Nat → Nat → Int) (r : Nat) : Array Value := #[.int .u32 o, .int .u32 x1, .int .u32 x2, .int .u32 x3, .int .i64 (Y (r % 16) 0), .int .i64 (Y (r % 16) 1), .int .i64 (Y (r % 16) 2), .int .i64 (Y (r % 16) 3), .int .u32 (Y (r % 16) 4), .int .i64 (Y ((r + 1) % 16) 0), .int .i64 (Y ((r + 1) % 16) 1), .int .i64 (Y ((r + 1) % 16) 2), .int .i64 (Y ((r + 1) % 16) 3), .int .u32 (Y ((r + 1) % 16) 4), .int .i64 (Y ((r + 2) % 16) 0), .int .i64 (Y ((r + 2) % 16) 1), .int .i64 (Y ((r + 2) % 16) 2), .int .i64 (Y ((r + 2) % 16) 3), .int .u32 (Y ((r + 2) % 16) 4)]
theorem noteA_size (o x1 x2 x3 : Int) (Y : Nat → Nat → Int) (r : Nat) : (noteA o x1 x2 x3 Y r).size = 19 := rfl
theorem noteA_one (o x1 x2 x3 : Int) (Y : Nat → Nat → Int) (r : Nat) : (noteA o x1 x2 x3 Y r).all (·.oneCell') = true := by simp [noteA, Value.oneCell']
theorem infoNote : (Tryd.prog.info? 34).map (·.size) = some 19 := by kernel_rfl
/-- The event of an invocation. -/
def invA (A o x1 x2 x3 : Int) (Y : Nat → Nat → Int) (q r : Nat) : Array Value := #[.int .i64 1, .int .i64 A, .int .i64 (Y q 0), .int .i64 (Y q 1), .int .i64 (Y q 2), .int .i64 (Y q 3), .int .u32 (Y q 4), .int .u32 o, .int .u32 x1, .int .u32 x2, .int .u32 x3, .int .i64 (Y (r % 16) 0), .int .i64 (Y (r % 16) 1), .int .i64 (Y (r % 16) 2), .int .i64 (Y (r % 16) 3), .int .u32 (Y (r % 16) 4), .int .i64 (Y ((r + 1) % 16) 0), .int .i64 (Y ((r + 1) % 16) 1), .int .i64 (Y ((r + 1) % 16) 2), .int .i64 (Y ((r + 1) % 16) 3), .int .u32 (Y ((r + 1) % 16) 4), .int .i64 (Y ((r + 2) % 16) 0), .int .i64 (Y ((r + 2) % 16) 1), .int .i64 (Y ((r + 2) % 16) 2), .int .i64 (Y ((r + 2) % 16) 3), .int .u32 (Y ((r + 2) % 16) 4), .int .i64 0, .int .u32 0]
theorem invA_ok (A o x1 x2 x3 : Int) (Y : Nat → Nat → Int) (q r : Nat) : EvOk (invA A o x1 x2 x3 Y q r) 1 := ⟨rfl, by simp [invA, Value.oneCell'], rfl⟩
theorem note_set {w : World} {nb : Nat} {o : Int} {Y : Nat → Nat → Int} {r : Nat} (h : w.rangeAt nb 0 (noteA o 0 0 0 Y r).toList) (ht : World.there w nb 0 19) (x1 x2 x3 : Int) : (w.setCells nb 1 [.int .u32 x1, .int .u32 x2, .int .u32 x3]).rangeAt nb 0 (noteA o x1 x2 x3 Y r).toList := by
  have hin := World.rangeAt_setCells_same w nb 1 [.int .u32 x1, .int .u32 x2, .int .u32 x3] (fun j hj => by
    have hj3 : j < 3 := hj
    have h := ht (1 + j) (by omega)
    rw [Nat.zero_add] at h
    exact h)
  have hout : ∀ j u, 4 ≤ j ∨ j = 0 → (noteA o 0 0 0 Y r).toList[j]? = some u → (w.setCells nb 1 [.int .u32 x1, .int .u32 x2, .int .u32 x3]).cell? ⟨nb, 0 + j, none⟩ = some u := fun j u hj hu => (World.cell?_setCells_out nb _ 1 w ⟨nb, 0 + j, none⟩ (fun _ _ => by simp only [List.length_cons, List.length_nil] at *; omega)).trans (h j u hu)
  intro j u hj
  have hl : j < 19 := by
    have := (List.getElem?_eq_some_iff.1 hj).1
    rwa [Array.length_toList, noteA_size] at this
  by_cases hj4 : 4 ≤ j
  · obtain ⟨i, rfl⟩ : ∃ i, j = i + 4 := ⟨j - 4, by omega⟩
    exact hout _ _ (.inl hj4) (by simpa [noteA] using hj)
  · have h4 : j = 0 ∨ j = 1 ∨ j = 2 ∨ j = 3 := by omega
    rcases h4 with rfl | rfl | rfl | rfl
    · exact hout _ _ (.inr rfl) (by simpa [noteA] using hj)
    · simp [noteA] at hj; subst hj; exact hin 0 _ rfl
    · simp [noteA] at hj; subst hj; exact hin 1 _ rfl
    · simp [noteA] at hj; subst hj; exact hin 2 _ rfl
theorem there3 (w : World) (o1 o2 : Obj) (z : Array Value) (n : Nat) (hz : z.size = n) (T : TypeId) : World.there (((w.alloc o1).alloc o2).alloc (.cells z T (0, 0))) (w.heap.size + 2) 0 n := by
  have h := there_new2 (w.alloc o1) o2 z n hz T
  rw [show (w.alloc o1).heap.size = w.heap.size + 1 by simp] at h
  exact h
theorem Ins.mid (w : World) (o1 o3 : Obj) (p0 p1 p2 p3 p4 : Int) (T : TypeId) : Ins (((w.alloc o1).alloc (.cells #[.int .i64 p0, .int .i64 p1, .int .i64 p2, .int .i64 p3, .int .i64 p4] T (0, 0))).alloc o3) (w.heap.size + 1) p0 p1 p2 p3 p4 := by
  have h := Ins.new (w.alloc o1) o3 p0 p1 p2 p3 p4 T
  rw [show (w.alloc o1).heap.size = w.heap.size + 1 by simp] at h
  exact h
set_option maxRecDepth 100000 in
set_option maxHeartbeats 4000000 in
theorem cinvokes_is (cs : Array Value) (f : Nat → Value) (R : Nat → Int) (Y : Nat → Nat → Int) (hcs : Hid (cs.size = 107 ∧ ∀ j, j < 107 → cs.toList[j]? = some (f j))) (hk : Hid (∀ j, j < 16 → KF f j (Y j 0) (Y j 1) (Y j 2) (Y j 3) (Y j 4))) (hreg : Hid (∀ q, q < 8 → f q = .int .u32 (R q))) (A B C : Int) (q r : Nat) (hBC : Hid (B = q ∧ C = r)) (hq : q < 16) (hr : r < 16) (w : World) :
    Calls Tryd.prog 63 #[.agg cs, (Value.agg #[.int .i64 11, .int .i64 A, .int .i64 B, .int .i64 C, .int .i64 0])] w fun e w' => e = .returned (.agg (invA A (R 0) (R 1) (R 2) (R 3) Y q r)) ∧ Below w.heap.size w w' := by
  obtain ⟨e1, e2⟩ := hBC.out
  subst e1 e2
  have q0 : (0 : Int) ≤ q := by omega
  have q1 : (q : Int) < 16 := by omega
  have HQR := Lib.hid (And.intro hq hr)
  clear hBC hq hr
  go_enter Tryd.func63, Tryd.ntmps63
  go_upto_region 1 with fail
  generalize hA : World.alloc (World.alloc (World.alloc w _) _) _ = wA
  have HA : Hid (Below w.heap.size w wA ∧ DomAt wA w.heap.size f ∧ World.there wA (w.heap.size + 2) 0 28 ∧ wA.heap.size = w.heap.size + 3 ∧ Ins wA (w.heap.size + 1) 11 A q r 0) := Lib.hid (by
    rw [← hA]
    exact ⟨(((Below.refl _ _).alloc (Nat.le_refl _) _).alloc (by simp) _).alloc (by simp; omega) _, ((dom_of_array hcs.out.1 hcs.out.2 _).below ((Below.refl _ _).alloc (Nat.le_refl _) _)).below ((Below.refl _ _).alloc (Nat.le_refl _) _), there3 _ _ _ _ _ (by rfl) _, by simp, Ins.mid _ _ _ _ _ _ _ _ _⟩)
  clear hA
  have HRg : Hid (∀ w', DomAt w' w.heap.size f → World.rangeAt w' w.heap.size 0 cs.toList) := Lib.hid (fun w' hd j u hj => by
    have hlt : j < 107 := by
      have := (List.getElem?_eq_some_iff.1 hj).1
      rw [Array.length_toList, hcs.out.1] at this
      exact this
    rw [hcs.out.2 j hlt] at hj
    cases hj
    simpa using hd.c j hlt)
  have HS1 : Hid (∀ w', Below wA.heap.size wA w' → World.cell? w' ⟨w.heap.size, 0, none⟩ = some (.int .u32 (R 0)) ∧ World.rangeAt w' w.heap.size 0 cs.toList ∧ World.cell? w' ⟨w.heap.size + 1, 3, none⟩ = some (.int .i64 (r : Int))) := Lib.hid (fun w' hb => ⟨((HA.out.2.1.below hb).c 0 (by decide)).trans (congrArg some (hreg.out 0 (by decide))), HRg.out _ (HA.out.2.1.below hb), (HA.out.2.2.2.2.below hb).c3⟩)
  have HSrc : Hid (∀ w', Below wA.heap.size wA w' → ∀ j v, ([.int .u32 (R 1), .int .u32 (R 2), .int .u32 (R 3)] : List Value)[j]? = some v → w'.cell? (Addr.add ⟨w.heap.size, 1, none⟩ j) = some v) := Lib.hid (fun w' hb j v hj => by
    have hl : j < 3 := (List.getElem?_eq_some_iff.1 hj).1
    have hd := HA.out.2.1.below hb
    have h3 : j = 0 ∨ j = 1 ∨ j = 2 := by omega
    rcases h3 with rfl | rfl | rfl
    · simp at hj; subst hj; exact (hd.c 1 (by decide)).trans (congrArg some (hreg.out 1 (by decide)))
    · simp at hj; subst hj; exact (hd.c 2 (by decide)).trans (congrArg some (hreg.out 2 (by decide)))
    · simp at hj; subst hj; exact (hd.c 3 (by decide)).trans (congrArg some (hreg.out 3 (by decide))))
  refine wp_region_noPanic ?_
  refine wp_region_held_drew (S := fun w' => World.cell? w' ⟨w.heap.size, 0, none⟩ = some (.int .u32 (R 0)) ∧ World.rangeAt w' w.heap.size 0 cs.toList ∧ World.cell? w' ⟨w.heap.size + 1, 3, none⟩ = some (.int .i64 (r : Int))) (by kernel_rfl) (HS1.out _ (Below.refl _ _).drew) (fun hHeld => ?_)
  refine wpAnyH_take (i := 0) (v := ?_) (by rfl) (by kernel_rfl) (by kernel_rfl) (by kernel_rfl) (fun _ _ _ h => h) (Or.inl ⟨by kernel_rfl, ?_⟩) (by assumption) ?_; rotate_left 1; (focus (intro w hSw; (try dsimp only at hSw); simp only [List.getElem_toArray, List.getElem_cons_succ, List.getElem_cons_zero]; all_goals go_simp; all_goals (try with_reducible rfl))); (try simp only [Act.put, List.getElem_toArray, List.getElem_cons_succ, List.getElem_cons_zero, List.setIfInBounds_toArray, List.set_cons_zero, List.set_cons_succ])
  refine wpAnyH_take (i := 1) (v := ?_) (by rfl) (by kernel_rfl) (by kernel_rfl) (by kernel_rfl) (fun _ _ _ h => h) (Or.inl ⟨by kernel_rfl, ?_⟩) (by assumption) ?_; rotate_left 1; (focus (intro w hSw; (try dsimp only at hSw); simp only [List.getElem_toArray, List.getElem_cons_succ, List.getElem_cons_zero]; all_goals go_simp; all_goals (try with_reducible rfl))); (try simp only [Act.put, List.getElem_toArray, List.getElem_cons_succ, List.getElem_cons_zero, List.setIfInBounds_toArray, List.set_cons_zero, List.set_cons_succ])
  refine wpAnyH_take (i := 2) (v := ?_) (by rfl) (by kernel_rfl) (by kernel_rfl) (by kernel_rfl) (fun _ _ _ h => h) (Or.inl ⟨by kernel_rfl, ?_⟩) (by assumption) ?_; rotate_left 1; (focus (intro w hSw; (try dsimp only at hSw); simp only [List.getElem_toArray, List.getElem_cons_succ, List.getElem_cons_zero]; all_goals go_simp; all_goals (try with_reducible rfl))); (try simp only [Act.put, List.getElem_toArray, List.getElem_cons_succ, List.getElem_cons_zero, List.setIfInBounds_toArray, List.set_cons_zero, List.set_cons_succ])
  refine wpAnyH_take (i := 3) (v := ?_) (by rfl) (by kernel_rfl) (by kernel_rfl) (by kernel_rfl) (fun _ _ _ h => h) (Or.inl ⟨by kernel_rfl, ?_⟩) (by assumption) ?_; rotate_left 1; (focus (intro w hSw; (try dsimp only at hSw); simp only [List.getElem_toArray, List.getElem_cons_succ, List.getElem_cons_zero]; all_goals go_simp; all_goals (try with_reducible rfl))); (try simp only [Act.put, List.getElem_toArray, List.getElem_cons_succ, List.getElem_cons_zero, List.setIfInBounds_toArray, List.set_cons_zero, List.set_cons_succ])
  refine wpAnyH_take (i := 5) (v := ?_) (by rfl) (by kernel_rfl) (by kernel_rfl) (by kernel_rfl) (fun _ _ _ h => h) (Or.inl ⟨by kernel_rfl, ?_⟩) (by assumption) ?_; rotate_left 1; (focus (intro w hSw; (try dsimp only at hSw); simp only [List.getElem_toArray, List.getElem_cons_succ, List.getElem_cons_zero]; all_goals go_simp; all_goals (try with_reducible rfl))); (try simp only [Act.put, List.getElem_toArray, List.getElem_cons_succ, List.getElem_cons_zero, List.setIfInBounds_toArray, List.set_cons_zero, List.set_cons_succ])
  refine wpAnyH_take (i := 6) (v := ?_) (by rfl) (by kernel_rfl) (by kernel_rfl) (by kernel_rfl) (fun _ _ _ h => h) (Or.inl ⟨by kernel_rfl, ?_⟩) (by assumption) ?_; rotate_left 1; (focus (intro w hSw; (try dsimp only at hSw); simp only [List.getElem_toArray, List.getElem_cons_succ, List.getElem_cons_zero]; all_goals go_simp; all_goals (try with_reducible rfl))); (try simp only [Act.put, List.getElem_toArray, List.getElem_cons_succ, List.getElem_cons_zero, List.setIfInBounds_toArray, List.set_cons_zero, List.set_cons_succ])
  refine wpAnyH_take (i := 4) (v := .agg cs.toList.toArray) (by rfl) (by kernel_rfl) (by kernel_rfl) (by kernel_rfl) (fun _ _ _ h => h) (yieldsIf_load_mid (by kernel_rfl) 30 (.tmp 2) (by rfl) w.heap.size 0 (by rfl) cs.toList _ (fun w h => h.2.1) Tryd.underlying30 rfl (by rw [Array.length_toList, hcs.out.1]; exact infoDom)) (by assumption) ?_
  (try simp only [Act.put, List.getElem_toArray, List.getElem_cons_succ, List.getElem_cons_zero, List.setIfInBounds_toArray, List.set_cons_zero, List.set_cons_succ])
  rw [show cs.toList.toArray = cs from by simp]
  refine wpAnyH_ready (rs := [7, 9]) (by kernel_rfl) (by simp) ?_
  refine AllReadyH.cons (by rfl) (fun K' hK => ?_) (AllReadyH.cons (by rfl) (fun K' hK => ?_) AllReadyH.nil)
  · (rw [if_pos (by kernel_rfl)]; simp only [List.getElem_toArray, List.getElem_cons_succ, List.getElem_cons_zero])
    go_wp2_with (first
      | (go_at_call 12; (with_reducible refine (csent_is cs f Y hcs hk r HQR.out.2 _).mono ?_); rintro e w2 ⟨he, hb⟩; rw [show sentA Y r = #[.int .i64 (Y (r % 16) 0), .int .i64 (Y (r % 16) 1), .int .i64 (Y (r % 16) 2), .int .i64 (Y (r % 16) 3), .int .u32 (Y (r % 16) 4), .int .i64 (Y ((r + 1) % 16) 0), .int .i64 (Y ((r + 1) % 16) 1), .int .i64 (Y ((r + 1) % 16) 2), .int .i64 (Y ((r + 1) % 16) 3), .int .u32 (Y ((r + 1) % 16) 4), .int .i64 (Y ((r + 2) % 16) 0), .int .i64 (Y ((r + 2) % 16) 1), .int .i64 (Y ((r + 2) % 16) 2), .int .i64 (Y ((r + 2) % 16) 3), .int .u32 (Y ((r + 2) % 16) 4)] from rfl] at he; subst he; have HB2 := Lib.hid ((Below.refl wA.heap.size wA).drew.trans hb); clear hb))
    refine hK.out _ _ (HS1.out _ HB2.out) (fun hHeld => ?_)
    clear hK K'
    (try simp only [Act.put, List.getElem_toArray, List.getElem_cons_succ, List.getElem_cons_zero, List.setIfInBounds_toArray, List.set_cons_zero, List.set_cons_succ])
    refine wpAnyH_take (i := 8) (v := ?_) (by rfl) (by kernel_rfl) (by kernel_rfl) (by kernel_rfl) (fun _ _ _ h => h) (Or.inl ⟨by kernel_rfl, ?_⟩) (by assumption) ?_; rotate_left 1; (focus (intro w hSw; (try dsimp only at hSw); simp only [List.getElem_toArray, List.getElem_cons_succ, List.getElem_cons_zero]; all_goals go_simp; all_goals (try with_reducible rfl))); (try simp only [Act.put, List.getElem_toArray, List.getElem_cons_succ, List.getElem_cons_zero, List.setIfInBounds_toArray, List.set_cons_zero, List.set_cons_succ])
    refine wpAnyH_ready (rs := [9]) (by kernel_rfl) (by simp) ?_; refine AllReadyH.cons (by rfl) (fun K hK => ?_) AllReadyH.nil; rw [if_pos (by kernel_rfl)]; simp only [List.getElem_toArray, List.getElem_cons_succ, List.getElem_cons_zero]
    go_wp2_with fail
    generalize hA : World.alloc w2 _ = w3
    have H3 : Hid (Below wA.heap.size wA w3 ∧ World.there w3 w2.heap.size 0 19 ∧ wA.heap.size ≤ w2.heap.size ∧ w2.heap.size < w3.heap.size) := Lib.hid (by rw [← hA]; exact ⟨HB2.out.alloc HB2.out.size _, there_new _ _ _ (by rfl) _, HB2.out.size, by simp⟩)
    clear hA
    refine hK.out _ _ (HS1.out _ H3.out.1) (fun hHeld => ?_)
    clear hK K
    (try simp only [Act.put, List.getElem_toArray, List.getElem_cons_succ, List.getElem_cons_zero, List.setIfInBounds_toArray, List.set_cons_zero, List.set_cons_succ])
    refine wpAnyH_ready (rs := [10]) (by kernel_rfl) (by simp) ?_; refine AllReadyH.cons (by rfl) (fun K hK => ?_) AllReadyH.nil; rw [if_pos (by kernel_rfl)]; simp only [List.getElem_toArray, List.getElem_cons_succ, List.getElem_cons_zero]
    refine wp_store_mid _ _ _ (by rfl) w2.heap.size 0 (noteA (R 0) 0 0 0 Y r) (by rfl) (by rfl) H3.out.2.1 infoNote (noteA_one _ _ _ _ _ _) ?_
    generalize hA : World.setCells w3 _ _ _ = w4
    have B4 : Hid (Below wA.heap.size wA w4) := Lib.hid (by rw [← hA]; exact below_cells H3.out.1 H3.out.2.2.1 _ _)
    have R4 : Hid (∀ nb, nb = w2.heap.size → w4.rangeAt nb 0 (noteA (R 0) 0 0 0 Y r).toList ∧ World.there w4 nb 0 19 ∧ wA.heap.size ≤ nb ∧ nb < w4.heap.size) := Lib.hid (by rintro nb rfl; rw [← hA]; exact ⟨World.rangeAt_setCells_same _ _ _ _ H3.out.2.1, World.there_setCells H3.out.2.1 _ _ _, H3.out.2.2.1, by rw [size_setCells]; exact H3.out.2.2.2⟩)
    clear hA
    refine hK.out _ _ (HS1.out _ B4.out) (fun hHeld => ?_)
    clear hK K hHeld
    (try simp only [Act.put, List.getElem_toArray, List.getElem_cons_succ, List.getElem_cons_zero, List.setIfInBounds_toArray, List.set_cons_zero, List.set_cons_succ])
    refine wpAnyH_done (by kernel_rfl) ?_ _
    refine NoPanic.normal ?_
    obtain ⟨nb, hnb⟩ : ∃ nb, nb = w2.heap.size := ⟨_, rfl⟩
    have R5 := Lib.hid (R4.out nb hnb)
    rw [← hnb]
    clear hnb R4
    have hrun := run_copy_cells (P := Tryd.prog) w4.drew 51 51 3 22 nb 1 3 3 ⟨w.heap.size, 1, none⟩ 7 7 [.int .u32 (R 1), .int .u32 (R 2), .int .u32 (R 3)] Tryd.underlying51 (by kernel_rfl) rfl (HSrc.out _ (B4.out.drew)) (fun j hj => by have h := (R5.out.2.1 (1 + j) (by simp at hj; omega)).1; rw [Nat.zero_add] at h; exact h) (fun j hj => by have h := (R5.out.2.1 (1 + j) (by simp at hj; omega)).2; rw [Nat.zero_add] at h; exact h) (by simp [Value.oneCell'])
    go_upto_region 2 with fail
    refine wp_region_noPanic ?_
    refine wp_region_held_drew (S := fun w' => True) (by kernel_rfl) trivial (fun hHeld => ?_)
    refine wpAnyH_take (i := 0) (v := ?_) (by rfl) (by kernel_rfl) (by kernel_rfl) (by kernel_rfl) (fun _ _ _ h => h) (Or.inl ⟨by kernel_rfl, ?_⟩) (by assumption) ?_; rotate_left 1; (focus (intro w hSw; (try dsimp only at hSw); simp only [List.getElem_toArray, List.getElem_cons_succ, List.getElem_cons_zero]; all_goals go_simp; all_goals (try with_reducible rfl))); (try simp only [Act.put, List.getElem_toArray, List.getElem_cons_succ, List.getElem_cons_zero, List.setIfInBounds_toArray, List.set_cons_zero, List.set_cons_succ])
    refine wpAnyH_take (i := 1) (v := ?_) (by rfl) (by kernel_rfl) (by kernel_rfl) (by kernel_rfl) (fun _ _ _ h => h) (Or.inl ⟨by kernel_rfl, ?_⟩) (by assumption) ?_; rotate_left 1; (focus (intro w hSw; (try dsimp only at hSw); simp only [List.getElem_toArray, List.getElem_cons_succ, List.getElem_cons_zero]; all_goals go_simp; all_goals (try with_reducible rfl))); (try simp only [Act.put, List.getElem_toArray, List.getElem_cons_succ, List.getElem_cons_zero, List.setIfInBounds_toArray, List.set_cons_zero, List.set_cons_succ])
    refine wpAnyH_take (i := 2) (v := ?_) (by rfl) (by kernel_rfl) (by kernel_rfl) (by kernel_rfl) (fun _ _ _ h => h) (Or.inl ⟨by kernel_rfl, ?_⟩) (by assumption) ?_; rotate_left 1; (focus (intro w hSw; (try dsimp only at hSw); simp only [List.getElem_toArray, List.getElem_cons_succ, List.getElem_cons_zero]; all_goals go_simp; all_goals (try with_reducible rfl))); (try simp only [Act.put, List.getElem_toArray, List.getElem_cons_succ, List.getElem_cons_zero, List.setIfInBounds_toArray, List.set_cons_zero, List.set_cons_succ])
    refine wpAnyH_take (i := 3) (v := ?_) (by rfl) (by kernel_rfl) (by kernel_rfl) (by kernel_rfl) (fun _ _ _ h => h) (Or.inl ⟨by kernel_rfl, ?_⟩) (by assumption) ?_; rotate_left 1; (focus (intro w hSw; (try dsimp only at hSw); simp only [List.getElem_toArray, List.getElem_cons_succ, List.getElem_cons_zero]; all_goals go_simp; all_goals (try with_reducible rfl))); (try simp only [Act.put, List.getElem_toArray, List.getElem_cons_succ, List.getElem_cons_zero, List.setIfInBounds_toArray, List.set_cons_zero, List.set_cons_succ])
    refine wpAnyH_take (i := 4) (v := ?_) (by rfl) (by kernel_rfl) (by kernel_rfl) (by kernel_rfl) (fun _ _ _ h => h) (Or.inl ⟨by kernel_rfl, ?_⟩) (by assumption) ?_; rotate_left 1; (focus (intro w hSw; (try dsimp only at hSw); simp only [List.getElem_toArray, List.getElem_cons_succ, List.getElem_cons_zero]; all_goals go_simp; all_goals (try with_reducible rfl))); (try simp only [Act.put, List.getElem_toArray, List.getElem_cons_succ, List.getElem_cons_zero, List.setIfInBounds_toArray, List.set_cons_zero, List.set_cons_succ])
    refine wpAnyH_ready (rs := [5]) (by kernel_rfl) (by simp) ?_; refine AllReadyH.cons (by rfl) (fun K hK => ?_) AllReadyH.nil; rw [if_pos (by kernel_rfl)]; simp only [List.getElem_toArray, List.getElem_cons_succ, List.getElem_cons_zero]
    go_wp2_with fail
    clear hrun
    generalize hA : World.setCells w4.drew _ _ _ = w5
    have B5 : Hid (Below wA.heap.size wA w5) := Lib.hid (by rw [← hA]; exact below_cells B4.out.drew R5.out.2.2.1 _ _)
    have R6 : Hid (w5.rangeAt nb 0 (noteA (R 0) (R 1) (R 2) (R 3) Y r).toList) := Lib.hid (by rw [← hA]; exact note_set (range_same R5.out.1 ((Below.refl w4.heap.size w4).drew.block _ R5.out.2.2.2)) (there_same R5.out.2.1 ((Below.refl w4.heap.size w4).drew.block _ R5.out.2.2.2)) _ _ _)
    have HNb : Hid (nb < w5.heap.size ∧ wA.heap.size ≤ nb) := Lib.hid (by rw [← hA, size_setCells]; exact ⟨by simpa using R5.out.2.2.2, R5.out.2.2.1⟩)
    clear hA
    refine hK.out _ _ trivial (fun hHeld => ?_)
    clear hK K hHeld R5
    (try simp only [Act.put, List.getElem_toArray, List.getElem_cons_succ, List.getElem_cons_zero, List.setIfInBounds_toArray, List.set_cons_zero, List.set_cons_succ])
    refine wpAnyH_done (by kernel_rfl) ?_ _
    refine NoPanic.normal ?_
    go_upto_region 3 with fail
    have HS3 : Hid (∀ w', Below w5.heap.size w5 w' → (World.cell? w' ⟨w.heap.size + 1, 1, none⟩ = some (.int .i64 A) ∧ World.cell? w' ⟨w.heap.size + 1, 2, none⟩ = some (.int .i64 (q : Int)) ∧ (World.cell? w' ⟨w.heap.size, 11 + q * 5, none⟩ = some (.int .i64 (Y q 0)) ∧ World.cell? w' ⟨w.heap.size, 11 + q * 5 + 1, none⟩ = some (.int .i64 (Y q 1)) ∧ World.cell? w' ⟨w.heap.size, 11 + q * 5 + 2, none⟩ = some (.int .i64 (Y q 2)) ∧ World.cell? w' ⟨w.heap.size, 11 + q * 5 + 3, none⟩ = some (.int .i64 (Y q 3)) ∧ World.cell? w' ⟨w.heap.size, 11 + q * 5 + 4, none⟩ = some (.int .u32 (Y q 4))) ∧ World.rangeAt w' nb 0 (noteA (R 0) (R 1) (R 2) (R 3) Y r).toList)) := Lib.hid (fun w' hb => by
      have hbA := B5.out.trans (hb.mono B5.out.size)
      have hi := HA.out.2.2.2.2.below hbA
      obtain ⟨y0, y1, y2, y3, y4⟩ := (HA.out.2.1.below hbA).keys hk.out q HQR.out.1
      exact ⟨hi.c1, hi.c2, ⟨y0, y1, y2, y3, y4⟩, range_same R6.out (hb.block _ HNb.out.1)⟩)
    refine wp_region_noPanic ?_
    refine wp_region_held_drew (S := fun w' => (World.cell? w' ⟨w.heap.size + 1, 1, none⟩ = some (.int .i64 A) ∧ World.cell? w' ⟨w.heap.size + 1, 2, none⟩ = some (.int .i64 (q : Int)) ∧ (World.cell? w' ⟨w.heap.size, 11 + q * 5, none⟩ = some (.int .i64 (Y q 0)) ∧ World.cell? w' ⟨w.heap.size, 11 + q * 5 + 1, none⟩ = some (.int .i64 (Y q 1)) ∧ World.cell? w' ⟨w.heap.size, 11 + q * 5 + 2, none⟩ = some (.int .i64 (Y q 2)) ∧ World.cell? w' ⟨w.heap.size, 11 + q * 5 + 3, none⟩ = some (.int .i64 (Y q 3)) ∧ World.cell? w' ⟨w.heap.size, 11 + q * 5 + 4, none⟩ = some (.int .u32 (Y q 4))) ∧ World.rangeAt w' nb 0 (noteA (R 0) (R 1) (R 2) (R 3) Y r).toList)) (by kernel_rfl) (HS3.out _ (Below.refl _ _).drew) (fun hHeld => ?_)
    refine wpAnyH_take (i := 0) (v := ?_) (by rfl) (by kernel_rfl) (by kernel_rfl) (by kernel_rfl) (fun _ _ _ h => h) (Or.inl ⟨by kernel_rfl, ?_⟩) (by assumption) ?_; rotate_left 1; (focus (intro w hSw; (try dsimp only at hSw); simp only [List.getElem_toArray, List.getElem_cons_succ, List.getElem_cons_zero]; all_goals go_simp; all_goals (try with_reducible rfl))); (try simp only [Act.put, List.getElem_toArray, List.getElem_cons_succ, List.getElem_cons_zero, List.setIfInBounds_toArray, List.set_cons_zero, List.set_cons_succ])
    refine wpAnyH_take (i := 1) (v := ?_) (by rfl) (by kernel_rfl) (by kernel_rfl) (by kernel_rfl) (fun _ _ _ h => h) (Or.inl ⟨by kernel_rfl, ?_⟩) (by assumption) ?_; rotate_left 1; (focus (intro w hSw; (try dsimp only at hSw); simp only [List.getElem_toArray, List.getElem_cons_succ, List.getElem_cons_zero]; all_goals go_simp; all_goals (try with_reducible rfl))); (try simp only [Act.put, List.getElem_toArray, List.getElem_cons_succ, List.getElem_cons_zero, List.setIfInBounds_toArray, List.set_cons_zero, List.set_cons_succ])
    refine wpAnyH_take (i := 2) (v := ?_) (by rfl) (by kernel_rfl) (by kernel_rfl) (by kernel_rfl) (fun _ _ _ h => h) (Or.inl ⟨by kernel_rfl, ?_⟩) (by assumption) ?_; rotate_left 1; (focus (intro w hSw; (try dsimp only at hSw); simp only [List.getElem_toArray, List.getElem_cons_succ, List.getElem_cons_zero]; all_goals go_simp; all_goals (try with_reducible rfl))); (try simp only [Act.put, List.getElem_toArray, List.getElem_cons_succ, List.getElem_cons_zero, List.setIfInBounds_toArray, List.set_cons_zero, List.set_cons_succ])
    refine wpAnyH_take (i := 3) (v := ?_) (by rfl) (by kernel_rfl) (by kernel_rfl) (by kernel_rfl) (fun _ _ _ h => h) (Or.inl ⟨by kernel_rfl, ?_⟩) (by assumption) ?_; rotate_left 1; (focus (intro w hSw; (try dsimp only at hSw); simp only [List.getElem_toArray, List.getElem_cons_succ, List.getElem_cons_zero]; all_goals go_simp; all_goals (try with_reducible rfl))); (try simp only [Act.put, List.getElem_toArray, List.getElem_cons_succ, List.getElem_cons_zero, List.setIfInBounds_toArray, List.set_cons_zero, List.set_cons_succ])
    refine wpAnyH_take (i := 4) (v := ?_) (by rfl) (by kernel_rfl) (by kernel_rfl) (by kernel_rfl) (fun _ _ _ h => h) (Or.inl ⟨by kernel_rfl, ?_⟩) (by assumption) ?_; rotate_left 1; (focus (intro w hSw; (try dsimp only at hSw); simp only [List.getElem_toArray, List.getElem_cons_succ, List.getElem_cons_zero]; all_goals go_simp; all_goals (try with_reducible rfl))); (try simp only [Act.put, List.getElem_toArray, List.getElem_cons_succ, List.getElem_cons_zero, List.setIfInBounds_toArray, List.set_cons_zero, List.set_cons_succ])
    refine wpAnyH_take (i := 5) (v := ?_) (by rfl) (by kernel_rfl) (by kernel_rfl) (by kernel_rfl) (fun _ _ _ h => h) (Or.inl ⟨by kernel_rfl, ?_⟩) (by assumption) ?_; rotate_left 1; (focus (intro w hSw; (try dsimp only at hSw); simp only [List.getElem_toArray, List.getElem_cons_succ, List.getElem_cons_zero]; all_goals go_simp; all_goals (try with_reducible rfl))); (try simp only [Act.put, List.getElem_toArray, List.getElem_cons_succ, List.getElem_cons_zero, List.setIfInBounds_toArray, List.set_cons_zero, List.set_cons_succ])
    refine wpAnyH_take (i := 6) (v := ?_) (by rfl) (by kernel_rfl) (by kernel_rfl) (by kernel_rfl) (fun _ _ _ h => h) (Or.inl ⟨by kernel_rfl, ?_⟩) (by assumption) ?_; rotate_left 1; (focus (intro w hSw; (try dsimp only at hSw); simp only [List.getElem_toArray, List.getElem_cons_succ, List.getElem_cons_zero]; all_goals go_simp; all_goals (try with_reducible rfl))); (try simp only [Act.put, List.getElem_toArray, List.getElem_cons_succ, List.getElem_cons_zero, List.setIfInBounds_toArray, List.set_cons_zero, List.set_cons_succ])
    refine wpAnyH_take (i := 7) (v := .agg (noteA (R 0) (R 1) (R 2) (R 3) Y r).toList.toArray) (by rfl) (by kernel_rfl) (by kernel_rfl) (by kernel_rfl) (fun _ _ _ h => h) (yieldsIf_load_mid (by kernel_rfl) 34 (.tmp 5) (by rfl) nb 0 (by rfl) (noteA (R 0) (R 1) (R 2) (R 3) Y r).toList _ (fun w h => h.2.2.2) Tryd.underlying34 rfl (by rw [Array.length_toList, noteA_size]; exact infoNote)) (by assumption) ?_
    (try simp only [Act.put, List.getElem_toArray, List.getElem_cons_succ, List.getElem_cons_zero, List.setIfInBounds_toArray, List.set_cons_zero, List.set_cons_succ])
    rw [show (noteA (R 0) (R 1) (R 2) (R 3) Y r).toList.toArray = #[.int .u32 (R 0), .int .u32 (R 1), .int .u32 (R 2), .int .u32 (R 3), .int .i64 (Y (r % 16) 0), .int .i64 (Y (r % 16) 1), .int .i64 (Y (r % 16) 2), .int .i64 (Y (r % 16) 3), .int .u32 (Y (r % 16) 4), .int .i64 (Y ((r + 1) % 16) 0), .int .i64 (Y ((r + 1) % 16) 1), .int .i64 (Y ((r + 1) % 16) 2), .int .i64 (Y ((r + 1) % 16) 3), .int .u32 (Y ((r + 1) % 16) 4), .int .i64 (Y ((r + 2) % 16) 0), .int .i64 (Y ((r + 2) % 16) 1), .int .i64 (Y ((r + 2) % 16) 2), .int .i64 (Y ((r + 2) % 16) 3), .int .u32 (Y ((r + 2) % 16) 4)] from rfl]
    refine wpAnyH_take (i := 8) (v := ?_) (by rfl) (by kernel_rfl) (by kernel_rfl) (by kernel_rfl) (fun _ _ _ h => h) (Or.inl ⟨by kernel_rfl, ?_⟩) (by assumption) ?_; rotate_left 1; (focus (intro w hSw; (try dsimp only at hSw); simp only [List.getElem_toArray, List.getElem_cons_succ, List.getElem_cons_zero]; all_goals go_simp; all_goals (try with_reducible rfl))); (try simp only [Act.put, List.getElem_toArray, List.getElem_cons_succ, List.getElem_cons_zero, List.setIfInBounds_toArray, List.set_cons_zero, List.set_cons_succ])
    refine wpAnyH_ready (rs := [9]) (by kernel_rfl) (by simp) ?_; refine AllReadyH.cons (by rfl) (fun K hK => ?_) AllReadyH.nil; rw [if_pos (by kernel_rfl)]; simp only [List.getElem_toArray, List.getElem_cons_succ, List.getElem_cons_zero]
    have HT5 := Lib.hid (there_same HA.out.2.2.1 ((B5.out.drew).block _ (by have := HA.out.2.2.2.1; omega)))
    refine wp_store_mid _ _ _ (by rfl) (w.heap.size + 2) 0 (invA A (R 0) (R 1) (R 2) (R 3) Y q r) (by rfl) (by rfl) HT5.out infoEv (invA_ok _ _ _ _ _ _ _ _).one ?_
    refine hK.out _ _ (by
      have h := HS3.out _ (Below.refl w5.heap.size w5).drew
      have hz := HA.out.2.2.2.1
      have hn := HNb.out.2
      have e1 := heap_setCells (w.heap.size + 2) (w.heap.size + 1) (by omega) (invA A (R 0) (R 1) (R 2) (R 3) Y q r).toList 0 w5.drew
      have e0 := heap_setCells (w.heap.size + 2) w.heap.size (by omega) (invA A (R 0) (R 1) (R 2) (R 3) Y q r).toList 0 w5.drew
      have en := heap_setCells (w.heap.size + 2) nb (by omega) (invA A (R 0) (R 1) (R 2) (R 3) Y q r).toList 0 w5.drew
      exact ⟨(World.cell?_of_block (a := ⟨w.heap.size + 1, 1, none⟩) e1).trans h.1, (World.cell?_of_block (a := ⟨w.heap.size + 1, 2, none⟩) e1).trans h.2.1, ⟨(World.cell?_of_block (a := ⟨w.heap.size, 11 + q * 5, none⟩) e0).trans h.2.2.1.1, (World.cell?_of_block (a := ⟨w.heap.size, 11 + q * 5 + 1, none⟩) e0).trans h.2.2.1.2.1, (World.cell?_of_block (a := ⟨w.heap.size, 11 + q * 5 + 2, none⟩) e0).trans h.2.2.1.2.2.1, (World.cell?_of_block (a := ⟨w.heap.size, 11 + q * 5 + 3, none⟩) e0).trans h.2.2.1.2.2.2.1, (World.cell?_of_block (a := ⟨w.heap.size, 11 + q * 5 + 4, none⟩) e0).trans h.2.2.1.2.2.2.2⟩, range_same h.2.2.2 en⟩) (fun hHeld => ?_)
    clear hK K hHeld
    (try simp only [Act.put, List.getElem_toArray, List.getElem_cons_succ, List.getElem_cons_zero, List.setIfInBounds_toArray, List.set_cons_zero, List.set_cons_succ])
    refine wpAnyH_done (by kernel_rfl) ?_ _
    refine NoPanic.normal ?_
    go_wp2_with fail
    have hld := (invA_ok A (R 0) (R 1) (R 2) (R 3) Y q r).load ((invA_ok A (R 0) (R 1) (R 2) (R 3) Y q r).stored HT5.out)
    refine bodyPost_ret (v := .agg (invA A (R 0) (R 1) (R 2) (R 3) Y q r)) (results_ev Tryd.results63 _ _ _ _ _ (by rfl) hld) rfl ⟨rfl, ?_⟩
    exact below_cells (HA.out.1.trans ((B5.out.drew).mono HA.out.1.size)) (by omega) _ _
  · (rw [if_pos (by kernel_rfl)]; simp only [List.getElem_toArray, List.getElem_cons_succ, List.getElem_cons_zero])
    go_wp2_with fail
    generalize hA : World.drew _ = w2
    have H2 : Hid (Below wA.heap.size wA w2 ∧ World.there w2 wA.heap.size 0 19 ∧ wA.heap.size < w2.heap.size) := Lib.hid (by rw [← hA]; exact ⟨((Below.refl _ _).alloc (Nat.le_refl _) _).drew, there_same (there_new wA _ _ (by rfl) _) rfl, by simp⟩)
    clear hA
    refine hK.out _ _ (HS1.out _ H2.out.1) (fun hHeld => ?_)
    clear hK K'
    (try simp only [Act.put, List.getElem_toArray, List.getElem_cons_succ, List.getElem_cons_zero, List.setIfInBounds_toArray, List.set_cons_zero, List.set_cons_succ])
    refine wpAnyH_ready (rs := [7]) (by kernel_rfl) (by simp) ?_; refine AllReadyH.cons (by rfl) (fun K hK => ?_) AllReadyH.nil; rw [if_pos (by kernel_rfl)]; simp only [List.getElem_toArray, List.getElem_cons_succ, List.getElem_cons_zero]
    go_wp2_with (first
      | (go_at_call 12; (with_reducible refine (csent_is cs f Y hcs hk r HQR.out.2 _).mono ?_); rintro e w3 ⟨he, hb⟩; rw [show sentA Y r = #[.int .i64 (Y (r % 16) 0), .int .i64 (Y (r % 16) 1), .int .i64 (Y (r % 16) 2), .int .i64 (Y (r % 16) 3), .int .u32 (Y (r % 16) 4), .int .i64 (Y ((r + 1) % 16) 0), .int .i64 (Y ((r + 1) % 16) 1), .int .i64 (Y ((r + 1) % 16) 2), .int .i64 (Y ((r + 1) % 16) 3), .int .u32 (Y ((r + 1) % 16) 4), .int .i64 (Y ((r + 2) % 16) 0), .int .i64 (Y ((r + 2) % 16) 1), .int .i64 (Y ((r + 2) % 16) 2), .int .i64 (Y ((r + 2) % 16) 3), .int .u32 (Y ((r + 2) % 16) 4)] from rfl] at he; subst he; have HB3 := Lib.hid hb; clear hb))
    have H3 : Hid (Below wA.heap.size wA w3 ∧ World.there w3 wA.heap.size 0 19 ∧ wA.heap.size < w3.heap.size) := Lib.hid ⟨H2.out.1.trans (HB3.out.mono H2.out.1.size), there_same H2.out.2.1 (HB3.out.block _ H2.out.2.2), Nat.lt_of_lt_of_le H2.out.2.2 HB3.out.size⟩
    refine hK.out _ _ (HS1.out _ H3.out.1) (fun hHeld => ?_)
    clear hK K
    (try simp only [Act.put, List.getElem_toArray, List.getElem_cons_succ, List.getElem_cons_zero, List.setIfInBounds_toArray, List.set_cons_zero, List.set_cons_succ])
    refine wpAnyH_take (i := 8) (v := ?_) (by rfl) (by kernel_rfl) (by kernel_rfl) (by kernel_rfl) (fun _ _ _ h => h) (Or.inl ⟨by kernel_rfl, ?_⟩) (by assumption) ?_; rotate_left 1; (focus (intro w hSw; (try dsimp only at hSw); simp only [List.getElem_toArray, List.getElem_cons_succ, List.getElem_cons_zero]; all_goals go_simp; all_goals (try with_reducible rfl))); (try simp only [Act.put, List.getElem_toArray, List.getElem_cons_succ, List.getElem_cons_zero, List.setIfInBounds_toArray, List.set_cons_zero, List.set_cons_succ])
    refine wpAnyH_ready (rs := [10]) (by kernel_rfl) (by simp) ?_; refine AllReadyH.cons (by rfl) (fun K hK => ?_) AllReadyH.nil; rw [if_pos (by kernel_rfl)]; simp only [List.getElem_toArray, List.getElem_cons_succ, List.getElem_cons_zero]
    refine wp_store_mid _ _ _ (by rfl) wA.heap.size 0 (noteA (R 0) 0 0 0 Y r) (by rfl) (by rfl) H3.out.2.1 infoNote (noteA_one _ _ _ _ _ _) ?_
    generalize hA : World.setCells w3 _ _ _ = w4
    have B4 : Hid (Below wA.heap.size wA w4) := Lib.hid (by rw [← hA]; exact below_cells H3.out.1 (Nat.le_refl _) _ _)
    have R4 : Hid (∀ nb, nb = wA.heap.size → w4.rangeAt nb 0 (noteA (R 0) 0 0 0 Y r).toList ∧ World.there w4 nb 0 19 ∧ wA.heap.size ≤ nb ∧ nb < w4.heap.size) := Lib.hid (by rintro nb rfl; rw [← hA]; exact ⟨World.rangeAt_setCells_same _ _ _ _ H3.out.2.1, World.there_setCells H3.out.2.1 _ _ _, Nat.le_refl _, by rw [size_setCells]; exact H3.out.2.2⟩)
    clear hA
    refine hK.out _ _ (HS1.out _ B4.out) (fun hHeld => ?_)
    clear hK K hHeld
    (try simp only [Act.put, List.getElem_toArray, List.getElem_cons_succ, List.getElem_cons_zero, List.setIfInBounds_toArray, List.set_cons_zero, List.set_cons_succ])
    refine wpAnyH_done (by kernel_rfl) ?_ _
    refine NoPanic.normal ?_
    obtain ⟨nb, hnb⟩ : ∃ nb, nb = wA.heap.size := ⟨_, rfl⟩
    have R5 := Lib.hid (R4.out nb hnb)
    rw [← hnb]
    clear hnb R4
    have hrun := run_copy_cells (P := Tryd.prog) w4.drew 51 51 3 22 nb 1 3 3 ⟨w.heap.size, 1, none⟩ 7 7 [.int .u32 (R 1), .int .u32 (R 2), .int .u32 (R 3)] Tryd.underlying51 (by kernel_rfl) rfl (HSrc.out _ (B4.out.drew)) (fun j hj => by have h := (R5.out.2.1 (1 + j) (by simp at hj; omega)).1; rw [Nat.zero_add] at h; exact h) (fun j hj => by have h := (R5.out.2.1 (1 + j) (by simp at hj; omega)).2; rw [Nat.zero_add] at h; exact h) (by simp [Value.oneCell'])
    go_upto_region 2 with fail
    refine wp_region_noPanic ?_
    refine wp_region_held_drew (S := fun w' => True) (by kernel_rfl) trivial (fun hHeld => ?_)
    refine wpAnyH_take (i := 0) (v := ?_) (by rfl) (by kernel_rfl) (by kernel_rfl) (by kernel_rfl) (fun _ _ _ h => h) (Or.inl ⟨by kernel_rfl, ?_⟩) (by assumption) ?_; rotate_left 1; (focus (intro w hSw; (try dsimp only at hSw); simp only [List.getElem_toArray, List.getElem_cons_succ, List.getElem_cons_zero]; all_goals go_simp; all_goals (try with_reducible rfl))); (try simp only [Act.put, List.getElem_toArray, List.getElem_cons_succ, List.getElem_cons_zero, List.setIfInBounds_toArray, List.set_cons_zero, List.set_cons_succ])
    refine wpAnyH_take (i := 1) (v := ?_) (by rfl) (by kernel_rfl) (by kernel_rfl) (by kernel_rfl) (fun _ _ _ h => h) (Or.inl ⟨by kernel_rfl, ?_⟩) (by assumption) ?_; rotate_left 1; (focus (intro w hSw; (try dsimp only at hSw); simp only [List.getElem_toArray, List.getElem_cons_succ, List.getElem_cons_zero]; all_goals go_simp; all_goals (try with_reducible rfl))); (try simp only [Act.put, List.getElem_toArray, List.getElem_cons_succ, List.getElem_cons_zero, List.setIfInBounds_toArray, List.set_cons_zero, List.set_cons_succ])
    refine wpAnyH_take (i := 2) (v := ?_) (by rfl) (by kernel_rfl) (by kernel_rfl) (by kernel_rfl) (fun _ _ _ h => h) (Or.inl ⟨by kernel_rfl, ?_⟩) (by assumption) ?_; rotate_left 1; (focus (intro w hSw; (try dsimp only at hSw); simp only [List.getElem_toArray, List.getElem_cons_succ, List.getElem_cons_zero]; all_goals go_simp; all_goals (try with_reducible rfl))); (try simp only [Act.put, List.getElem_toArray, List.getElem_cons_succ, List.getElem_cons_zero, List.setIfInBounds_toArray, List.set_cons_zero, List.set_cons_succ])
    refine wpAnyH_take (i := 3) (v := ?_) (by rfl) (by kernel_rfl) (by kernel_rfl) (by kernel_rfl) (fun _ _ _ h => h) (Or.inl ⟨by kernel_rfl, ?_⟩) (by assumption) ?_; rotate_left 1; (focus (intro w hSw; (try dsimp only at hSw); simp only [List.getElem_toArray, List.getElem_cons_succ, List.getElem_cons_zero]; all_goals go_simp; all_goals (try with_reducible rfl))); (try simp only [Act.put, List.getElem_toArray, List.getElem_cons_succ, List.getElem_cons_zero, List.setIfInBounds_toArray, List.set_cons_zero, List.set_cons_succ])
    refine wpAnyH_take (i := 4) (v := ?_) (by rfl) (by kernel_rfl) (by kernel_rfl) (by kernel_rfl) (fun _ _ _ h => h) (Or.inl ⟨by kernel_rfl, ?_⟩) (by assumption) ?_; rotate_left 1; (focus (intro w hSw; (try dsimp only at hSw); simp only [List.getElem_toArray, List.getElem_cons_succ, List.getElem_cons_zero]; all_goals go_simp; all_goals (try with_reducible rfl))); (try simp only [Act.put, List.getElem_toArray, List.getElem_cons_succ, List.getElem_cons_zero, List.setIfInBounds_toArray, List.set_cons_zero, List.set_cons_succ])
    refine wpAnyH_ready (rs := [5]) (by kernel_rfl) (by simp) ?_; refine AllReadyH.cons (by rfl) (fun K hK => ?_) AllReadyH.nil; rw [if_pos (by kernel_rfl)]; simp only [List.getElem_toArray, List.getElem_cons_succ, List.getElem_cons_zero]
    go_wp2_with fail
    clear hrun
    generalize hA : World.setCells w4.drew _ _ _ = w5
    have B5 : Hid (Below wA.heap.size wA w5) := Lib.hid (by rw [← hA]; exact below_cells B4.out.drew R5.out.2.2.1 _ _)
    have R6 : Hid (w5.rangeAt nb 0 (noteA (R 0) (R 1) (R 2) (R 3) Y r).toList) := Lib.hid (by rw [← hA]; exact note_set (range_same R5.out.1 ((Below.refl w4.heap.size w4).drew.block _ R5.out.2.2.2)) (there_same R5.out.2.1 ((Below.refl w4.heap.size w4).drew.block _ R5.out.2.2.2)) _ _ _)
    have HNb : Hid (nb < w5.heap.size ∧ wA.heap.size ≤ nb) := Lib.hid (by rw [← hA, size_setCells]; exact ⟨by simpa using R5.out.2.2.2, R5.out.2.2.1⟩)
    clear hA
    refine hK.out _ _ trivial (fun hHeld => ?_)
    clear hK K hHeld R5
    (try simp only [Act.put, List.getElem_toArray, List.getElem_cons_succ, List.getElem_cons_zero, List.setIfInBounds_toArray, List.set_cons_zero, List.set_cons_succ])
    refine wpAnyH_done (by kernel_rfl) ?_ _
    refine NoPanic.normal ?_
    go_upto_region 3 with fail
    have HS3 : Hid (∀ w', Below w5.heap.size w5 w' → (World.cell? w' ⟨w.heap.size + 1, 1, none⟩ = some (.int .i64 A) ∧ World.cell? w' ⟨w.heap.size + 1, 2, none⟩ = some (.int .i64 (q : Int)) ∧ (World.cell? w' ⟨w.heap.size, 11 + q * 5, none⟩ = some (.int .i64 (Y q 0)) ∧ World.cell? w' ⟨w.heap.size, 11 + q * 5 + 1, none⟩ = some (.int .i64 (Y q 1)) ∧ World.cell? w' ⟨w.heap.size, 11 + q * 5 + 2, none⟩ = some (.int .i64 (Y q 2)) ∧ World.cell? w' ⟨w.heap.size, 11 + q * 5 + 3, none⟩ = some (.int .i64 (Y q 3)) ∧ World.cell? w' ⟨w.heap.size, 11 + q * 5 + 4, none⟩ = some (.int .u32 (Y q 4))) ∧ World.rangeAt w' nb 0 (noteA (R 0) (R 1) (R 2) (R 3) Y r).toList)) := Lib.hid (fun w' hb => by
      have hbA := B5.out.trans (hb.mono B5.out.size)
      have hi := HA.out.2.2.2.2.below hbA
      obtain ⟨y0, y1, y2, y3, y4⟩ := (HA.out.2.1.below hbA).keys hk.out q HQR.out.1
      exact ⟨hi.c1, hi.c2, ⟨y0, y1, y2, y3, y4⟩, range_same R6.out (hb.block _ HNb.out.1)⟩)
    refine wp_region_noPanic ?_
    refine wp_region_held_drew (S := fun w' => (World.cell? w' ⟨w.heap.size + 1, 1, none⟩ = some (.int .i64 A) ∧ World.cell? w' ⟨w.heap.size + 1, 2, none⟩ = some (.int .i64 (q : Int)) ∧ (World.cell? w' ⟨w.heap.size, 11 + q * 5, none⟩ = some (.int .i64 (Y q 0)) ∧ World.cell? w' ⟨w.heap.size, 11 + q * 5 + 1, none⟩ = some (.int .i64 (Y q 1)) ∧ World.cell? w' ⟨w.heap.size, 11 + q * 5 + 2, none⟩ = some (.int .i64 (Y q 2)) ∧ World.cell? w' ⟨w.heap.size, 11 + q * 5 + 3, none⟩ = some (.int .i64 (Y q 3)) ∧ World.cell? w' ⟨w.heap.size, 11 + q * 5 + 4, none⟩ = some (.int .u32 (Y q 4))) ∧ World.rangeAt w' nb 0 (noteA (R 0) (R 1) (R 2) (R 3) Y r).toList)) (by kernel_rfl) (HS3.out _ (Below.refl _ _).drew) (fun hHeld => ?_)
    refine wpAnyH_take (i := 0) (v := ?_) (by rfl) (by kernel_rfl) (by kernel_rfl) (by kernel_rfl) (fun _ _ _ h => h) (Or.inl ⟨by kernel_rfl, ?_⟩) (by assumption) ?_; rotate_left 1; (focus (intro w hSw; (try dsimp only at hSw); simp only [List.getElem_toArray, List.getElem_cons_succ, List.getElem_cons_zero]; all_goals go_simp; all_goals (try with_reducible rfl))); (try simp only [Act.put, List.getElem_toArray, List.getElem_cons_succ, List.getElem_cons_zero, List.setIfInBounds_toArray, List.set_cons_zero, List.set_cons_succ])
    refine wpAnyH_take (i := 1) (v := ?_) (by rfl) (by kernel_rfl) (by kernel_rfl) (by kernel_rfl) (fun _ _ _ h => h) (Or.inl ⟨by kernel_rfl, ?_⟩) (by assumption) ?_; rotate_left 1; (focus (intro w hSw; (try dsimp only at hSw); simp only [List.getElem_toArray, List.getElem_cons_succ, List.getElem_cons_zero]; all_goals go_simp; all_goals (try with_reducible rfl))); (try simp only [Act.put, List.getElem_toArray, List.getElem_cons_succ, List.getElem_cons_zero, List.setIfInBounds_toArray, List.set_cons_zero, List.set_cons_succ])
    refine wpAnyH_take (i := 2) (v := ?_) (by rfl) (by kernel_rfl) (by kernel_rfl) (by kernel_rfl) (fun _ _ _ h => h) (Or.inl ⟨by kernel_rfl, ?_⟩) (by assumption) ?_; rotate_left 1; (focus (intro w hSw; (try dsimp only at hSw); simp only [List.getElem_toArray, List.getElem_cons_succ, List.getElem_cons_zero]; all_goals go_simp; all_goals (try with_reducible rfl))); (try simp only [Act.put, List.getElem_toArray, List.getElem_cons_succ, List.getElem_cons_zero, List.setIfInBounds_toArray, List.set_cons_zero, List.set_cons_succ])
    refine wpAnyH_take (i := 3) (v := ?_) (by rfl) (by kernel_rfl) (by kernel_rfl) (by kernel_rfl) (fun _ _ _ h => h) (Or.inl ⟨by kernel_rfl, ?_⟩) (by assumption) ?_; rotate_left 1; (focus (intro w hSw; (try dsimp only at hSw); simp only [List.getElem_toArray, List.getElem_cons_succ, List.getElem_cons_zero]; all_goals go_simp; all_goals (try with_reducible rfl))); (try simp only [Act.put, List.getElem_toArray, List.getElem_cons_succ, List.getElem_cons_zero, List.setIfInBounds_toArray, List.set_cons_zero, List.set_cons_succ])
    refine wpAnyH_take (i := 4) (v := ?_) (by rfl) (by kernel_rfl) (by kernel_rfl) (by kernel_rfl) (fun _ _ _ h => h) (Or.inl ⟨by kernel_rfl, ?_⟩) (by assumption) ?_; rotate_left 1; (focus (intro w hSw; (try dsimp only at hSw); simp only [List.getElem_toArray, List.getElem_cons_succ, List.getElem_cons_zero]; all_goals go_simp; all_goals (try with_reducible rfl))); (try simp only [Act.put, List.getElem_toArray, List.getElem_cons_succ, List.getElem_cons_zero, List.setIfInBounds_toArray, List.set_cons_zero, List.set_cons_succ])
    refine wpAnyH_take (i := 5) (v := ?_) (by rfl) (by kernel_rfl) (by kernel_rfl) (by kernel_rfl) (fun _ _ _ h => h) (Or.inl ⟨by kernel_rfl, ?_⟩) (by assumption) ?_; rotate_left 1; (focus (intro w hSw; (try dsimp only at hSw); simp only [List.getElem_toArray, List.getElem_cons_succ, List.getElem_cons_zero]; all_goals go_simp; all_goals (try with_reducible rfl))); (try simp only [Act.put, List.getElem_toArray, List.getElem_cons_succ, List.getElem_cons_zero, List.setIfInBounds_toArray, List.set_cons_zero, List.set_cons_succ])
    refine wpAnyH_take (i := 6) (v := ?_) (by rfl) (by kernel_rfl) (by kernel_rfl) (by kernel_rfl) (fun _ _ _ h => h) (Or.inl ⟨by kernel_rfl, ?_⟩) (by assumption) ?_; rotate_left 1; (focus (intro w hSw; (try dsimp only at hSw); simp only [List.getElem_toArray, List.getElem_cons_succ, List.getElem_cons_zero]; all_goals go_simp; all_goals (try with_reducible rfl))); (try simp only [Act.put, List.getElem_toArray, List.getElem_cons_succ, List.getElem_cons_zero, List.setIfInBounds_toArray, List.set_cons_zero, List.set_cons_succ])
    refine wpAnyH_take (i := 7) (v := .agg (noteA (R 0) (R 1) (R 2) (R 3) Y r).toList.toArray) (by rfl) (by kernel_rfl) (by kernel_rfl) (by kernel_rfl) (fun _ _ _ h => h) (yieldsIf_load_mid (by kernel_rfl) 34 (.tmp 5) (by rfl) nb 0 (by rfl) (noteA (R 0) (R 1) (R 2) (R 3) Y r).toList _ (fun w h => h.2.2.2) Tryd.underlying34 rfl (by rw [Array.length_toList, noteA_size]; exact infoNote)) (by assumption) ?_
    (try simp only [Act.put, List.getElem_toArray, List.getElem_cons_succ, List.getElem_cons_zero, List.setIfInBounds_toArray, List.set_cons_zero, List.set_cons_succ])
    rw [show (noteA (R 0) (R 1) (R 2) (R 3) Y r).toList.toArray = #[.int .u32 (R 0), .int .u32 (R 1), .int .u32 (R 2), .int .u32 (R 3), .int .i64 (Y (r % 16) 0), .int .i64 (Y (r % 16) 1), .int .i64 (Y (r % 16) 2), .int .i64 (Y (r % 16) 3), .int .u32 (Y (r % 16) 4), .int .i64 (Y ((r + 1) % 16) 0), .int .i64 (Y ((r + 1) % 16) 1), .int .i64 (Y ((r + 1) % 16) 2), .int .i64 (Y ((r + 1) % 16) 3), .int .u32 (Y ((r + 1) % 16) 4), .int .i64 (Y ((r + 2) % 16) 0), .int .i64 (Y ((r + 2) % 16) 1), .int .i64 (Y ((r + 2) % 16) 2), .int .i64 (Y ((r + 2) % 16) 3), .int .u32 (Y ((r + 2) % 16) 4)] from rfl]
    refine wpAnyH_take (i := 8) (v := ?_) (by rfl) (by kernel_rfl) (by kernel_rfl) (by kernel_rfl) (fun _ _ _ h => h) (Or.inl ⟨by kernel_rfl, ?_⟩) (by assumption) ?_; rotate_left 1; (focus (intro w hSw; (try dsimp only at hSw); simp only [List.getElem_toArray, List.getElem_cons_succ, List.getElem_cons_zero]; all_goals go_simp; all_goals (try with_reducible rfl))); (try simp only [Act.put, List.getElem_toArray, List.getElem_cons_succ, List.getElem_cons_zero, List.setIfInBounds_toArray, List.set_cons_zero, List.set_cons_succ])
    refine wpAnyH_ready (rs := [9]) (by kernel_rfl) (by simp) ?_; refine AllReadyH.cons (by rfl) (fun K hK => ?_) AllReadyH.nil; rw [if_pos (by kernel_rfl)]; simp only [List.getElem_toArray, List.getElem_cons_succ, List.getElem_cons_zero]
    have HT5 := Lib.hid (there_same HA.out.2.2.1 ((B5.out.drew).block _ (by have := HA.out.2.2.2.1; omega)))
    refine wp_store_mid _ _ _ (by rfl) (w.heap.size + 2) 0 (invA A (R 0) (R 1) (R 2) (R 3) Y q r) (by rfl) (by rfl) HT5.out infoEv (invA_ok _ _ _ _ _ _ _ _).one ?_
    refine hK.out _ _ (by
      have h := HS3.out _ (Below.refl w5.heap.size w5).drew
      have hz := HA.out.2.2.2.1
      have hn := HNb.out.2
      have e1 := heap_setCells (w.heap.size + 2) (w.heap.size + 1) (by omega) (invA A (R 0) (R 1) (R 2) (R 3) Y q r).toList 0 w5.drew
      have e0 := heap_setCells (w.heap.size + 2) w.heap.size (by omega) (invA A (R 0) (R 1) (R 2) (R 3) Y q r).toList 0 w5.drew
      have en := heap_setCells (w.heap.size + 2) nb (by omega) (invA A (R 0) (R 1) (R 2) (R 3) Y q r).toList 0 w5.drew
      exact ⟨(World.cell?_of_block (a := ⟨w.heap.size + 1, 1, none⟩) e1).trans h.1, (World.cell?_of_block (a := ⟨w.heap.size + 1, 2, none⟩) e1).trans h.2.1, ⟨(World.cell?_of_block (a := ⟨w.heap.size, 11 + q * 5, none⟩) e0).trans h.2.2.1.1, (World.cell?_of_block (a := ⟨w.heap.size, 11 + q * 5 + 1, none⟩) e0).trans h.2.2.1.2.1, (World.cell?_of_block (a := ⟨w.heap.size, 11 + q * 5 + 2, none⟩) e0).trans h.2.2.1.2.2.1, (World.cell?_of_block (a := ⟨w.heap.size, 11 + q * 5 + 3, none⟩) e0).trans h.2.2.1.2.2.2.1, (World.cell?_of_block (a := ⟨w.heap.size, 11 + q * 5 + 4, none⟩) e0).trans h.2.2.1.2.2.2.2⟩, range_same h.2.2.2 en⟩) (fun hHeld => ?_)
    clear hK K hHeld
    (try simp only [Act.put, List.getElem_toArray, List.getElem_cons_succ, List.getElem_cons_zero, List.setIfInBounds_toArray, List.set_cons_zero, List.set_cons_succ])
    refine wpAnyH_done (by kernel_rfl) ?_ _
    refine NoPanic.normal ?_
    go_wp2_with fail
    have hld := (invA_ok A (R 0) (R 1) (R 2) (R 3) Y q r).load ((invA_ok A (R 0) (R 1) (R 2) (R 3) Y q r).stored HT5.out)
    refine bodyPost_ret (v := .agg (invA A (R 0) (R 1) (R 2) (R 3) Y q r)) (results_ev Tryd.results63 _ _ _ _ _ (by rfl) hld) rfl ⟨rfl, ?_⟩
    exact below_cells (HA.out.1.trans ((B5.out.drew).mono HA.out.1.size)) (by omega) _ _
end Go.Proofs.YtjkbfhojjjkgnaaDoor
namespace Go.Proofs.YtjkbfhojjjkgnaaDoor
open Go.ChangeShapes Go.WideShapes Go.ChangeAt Go.RowKit
set_option linter.unusedVariables false
set_option linter.unusedSimpArgs false
set_option maxRecDepth 100000 in
set_option maxHeartbeats 4000000 in
theorem cdo_inv {w0 : World} {mb S : Nat} {a b : Shp} {N cb : Nat} {th : Nat → Bool} {vr_ : Nat → Int} {W : Nat → Nat → Value} {th2 : Nat → Bool} {vr2 : Nat → Int} {W2 : Nat → Nat → Int} {hits : Int} {v : Value} {E : List EW} {db : Nat} {f : Nat → Value} (A B C : Int) (q r : Nat) (hBC : Hid (B = q ∧ C = r)) (hq : q < 16) (hr : r < 16) (R : Nat → Int) (Y : Nat → Nat → Int) (hi : Hid (Ints f)) (hk : Hid (∀ j, j < 16 → KF f j (Y j 0) (Y j 1) (Y j 2) (Y j 3) (Y j 4))) (hreg : Hid (∀ q, q < 8 → f q = .int .u32 (R q))) (w : World) (h : (CpAt w0 w mb S a b N cb th vr_ W th2 vr2 W2 hits v E db f)) :
    Calls Tryd.prog 42 #[.pointer (some ⟨mb, 0, none⟩), .pointer (some ⟨db, 0, none⟩), (Value.agg #[.int .i64 11, .int .i64 A, .int .i64 B, .int .i64 C, .int .i64 0])] w fun e w' => e = .returned (.agg (invA A (R 0) (R 1) (R 2) (R 3) Y q r)) ∧ CQ w0 w mb S a b N cb th vr_ W th2 vr2 W2 hits hits v E db f w' := by
  obtain ⟨e1, e2⟩ := hBC.out
  subst e1 e2
  have H := Lib.hid h
  have HQR := Lib.hid (And.intro hq hr)
  obtain ⟨cs, hcs⟩ := dom_array hi.out
  have HCs := Lib.hid hcs
  clear h hBC hq hr hcs
  go_enter Tryd.func42, Tryd.ntmps42; go_upto_region 1 with fail; generalize hA : World.alloc (World.alloc w _) _ = wA; have HM : Hid (Mine w wA (w.heap.size + 1)) := Lib.hid ⟨by rw [← hA]; exact ((Below.refl _ _).alloc (Nat.le_refl _) _).alloc (by simp) _, by omega, by rw [← hA]; simp⟩; have HT : Hid (World.there wA (w.heap.size + 1) 0 28) := Lib.hid (by rw [← hA]; exact there_new2 _ _ _ _ rfl _); have HI := Lib.hid (by rw [← hA]; exact Ins.new _ _ _ _ _ _ _ _ : Ins wA w.heap.size _ _ _ _ _); clear hA; have HA := Lib.hid (H.out.below HM.out.bel); have i0 := HI.out.c0; have i1 := HI.out.c1; have i2 := HI.out.c2; have i3 := HI.out.c3; have i4 := HI.out.c4
  go_upto_region 24 with fail
  clear i0 i1 i2 i3 i4
  have HS1 : Hid (∀ w', Below wA.heap.size wA w' → (World.rangeAt w' db 0 cs.toList ∧ World.cell? w' ⟨w.heap.size, 0, none⟩ = some (.int .i64 11) ∧ World.cell? w' ⟨w.heap.size, 1, none⟩ = some (.int .i64 A) ∧ World.cell? w' ⟨w.heap.size, 2, none⟩ = some (.int .i64 (q : Int)) ∧ World.cell? w' ⟨w.heap.size, 3, none⟩ = some (.int .i64 (r : Int)) ∧ World.cell? w' ⟨w.heap.size, 4, none⟩ = some (.int .i64 0))) := Lib.hid (fun w' hb => by
    have hI := HI.out.below hb
    exact ⟨HCs.out.2.2.1 _ _ (HA.out.d.below hb), hI.c0, hI.c1, hI.c2, hI.c3, hI.c4⟩)
  refine wp_region_noPanic ?_
  refine wp_region_held_drew (S := fun w' => (World.rangeAt w' db 0 cs.toList ∧ World.cell? w' ⟨w.heap.size, 0, none⟩ = some (.int .i64 11) ∧ World.cell? w' ⟨w.heap.size, 1, none⟩ = some (.int .i64 A) ∧ World.cell? w' ⟨w.heap.size, 2, none⟩ = some (.int .i64 (q : Int)) ∧ World.cell? w' ⟨w.heap.size, 3, none⟩ = some (.int .i64 (r : Int)) ∧ World.cell? w' ⟨w.heap.size, 4, none⟩ = some (.int .i64 0))) (by kernel_rfl) (HS1.out _ (Below.refl _ _).drew) (fun hHeld => ?_)
  refine wpAnyH_take (i := 0) (v := ?_) (by rfl) (by kernel_rfl) (by kernel_rfl) (by kernel_rfl) (fun _ _ _ h => h) (Or.inl ⟨by kernel_rfl, ?_⟩) (by assumption) ?_; rotate_left 1; (focus (intro w hSw; (try dsimp only at hSw); simp only [List.getElem_toArray, List.getElem_cons_succ, List.getElem_cons_zero]; all_goals go_simp; all_goals (try with_reducible rfl))); (try simp only [Act.put, List.getElem_toArray, List.getElem_cons_succ, List.getElem_cons_zero, List.setIfInBounds_toArray, List.set_cons_zero, List.set_cons_succ])
  refine wpAnyH_take (i := 1) (v := ?_) (by rfl) (by kernel_rfl) (by kernel_rfl) (by kernel_rfl) (fun _ _ _ h => h) (Or.inl ⟨by kernel_rfl, ?_⟩) (by assumption) ?_; rotate_left 1; (focus (intro w hSw; (try dsimp only at hSw); simp only [List.getElem_toArray, List.getElem_cons_succ, List.getElem_cons_zero]; all_goals go_simp; all_goals (try with_reducible rfl))); (try simp only [Act.put, List.getElem_toArray, List.getElem_cons_succ, List.getElem_cons_zero, List.setIfInBounds_toArray, List.set_cons_zero, List.set_cons_succ])
  refine wpAnyH_take (i := 3) (v := ?_) (by rfl) (by kernel_rfl) (by kernel_rfl) (by kernel_rfl) (fun _ _ _ h => h) (Or.inl ⟨by kernel_rfl, ?_⟩) (by assumption) ?_; rotate_left 1; (focus (intro w hSw; (try dsimp only at hSw); simp only [List.getElem_toArray, List.getElem_cons_succ, List.getElem_cons_zero]; all_goals go_simp; all_goals (try with_reducible rfl))); (try simp only [Act.put, List.getElem_toArray, List.getElem_cons_succ, List.getElem_cons_zero, List.setIfInBounds_toArray, List.set_cons_zero, List.set_cons_succ])
  refine wpAnyH_take (i := 2) (v := .agg cs.toList.toArray) (by rfl) (by kernel_rfl) (by kernel_rfl) (by kernel_rfl) (fun _ _ _ h => h) (yieldsIf_load_mid (by kernel_rfl) 30 (.tmp 156) (by rfl) db 0 (by rfl) cs.toList _ (fun w h => h.1) Tryd.underlying30 rfl (by rw [Array.length_toList, HCs.out.1]; exact infoDom)) (by assumption) ?_
  (try simp only [Act.put, List.getElem_toArray, List.getElem_cons_succ, List.getElem_cons_zero, List.setIfInBounds_toArray, List.set_cons_zero, List.set_cons_succ])
  rw [show cs.toList.toArray = cs from by simp]
  refine wpAnyH_ready (rs := [4]) (by kernel_rfl) (by simp) ?_; refine AllReadyH.cons (by rfl) (fun K hK => ?_) AllReadyH.nil; rw [if_pos (by kernel_rfl)]; simp only [List.getElem_toArray, List.getElem_cons_succ, List.getElem_cons_zero]
  go_wp2_with (first
    | (go_at_call 63; (with_reducible refine (cinvokes_is cs f R Y (Lib.hid ⟨HCs.out.1, HCs.out.2.2.2⟩) hk hreg A _ _ q r (Lib.hid ⟨rfl, rfl⟩) HQR.out.1 HQR.out.2 _).mono ?_); rintro e w2 ⟨rfl, hb⟩; have HB2 := Lib.hid ((Below.refl wA.heap.size wA).drew.trans hb); clear hb))
  refine hK.out _ _ (HS1.out _ HB2.out) (fun hHeld => ?_)
  clear hK K
  (try simp only [Act.put, List.getElem_toArray, List.getElem_cons_succ, List.getElem_cons_zero, List.setIfInBounds_toArray, List.set_cons_zero, List.set_cons_succ])
  have HQ := Lib.hid (HA.out.cq.below HB2.out)
  have HT1 := Lib.hid (there_same HT.out (CQ.mine H.out HM.out HQ.out))
  refine wpAnyH_ready (rs := [5]) (by kernel_rfl) (by simp) ?_; refine AllReadyH.cons (by rfl) (fun K hK => ?_) AllReadyH.nil; rw [if_pos (by kernel_rfl)]; simp only [List.getElem_toArray, List.getElem_cons_succ, List.getElem_cons_zero]
  refine wp_store_mid _ _ _ (by rfl) (w.heap.size + 1) 0 (invA A (R 0) (R 1) (R 2) (R 3) Y q r) (by rfl) (by rfl) HT1.out infoEv (invA_ok _ _ _ _ _ _ _ _).one ?_
  refine hK.out _ _ (by
    have h := HS1.out _ HB2.out
    have hd : db < w.heap.size := H.out.d.lt
    have e0 := heap_setCells (w.heap.size + 1) w.heap.size (by omega) (invA A (R 0) (R 1) (R 2) (R 3) Y q r).toList 0 w2
    have ed := heap_setCells (w.heap.size + 1) db (by omega) (invA A (R 0) (R 1) (R 2) (R 3) Y q r).toList 0 w2
    exact ⟨range_same h.1 ed, (World.cell?_of_block (a := ⟨w.heap.size, 0, none⟩) e0).trans h.2.1, (World.cell?_of_block (a := ⟨w.heap.size, 1, none⟩) e0).trans h.2.2.1, (World.cell?_of_block (a := ⟨w.heap.size, 2, none⟩) e0).trans h.2.2.2.1, (World.cell?_of_block (a := ⟨w.heap.size, 3, none⟩) e0).trans h.2.2.2.2.1, (World.cell?_of_block (a := ⟨w.heap.size, 4, none⟩) e0).trans h.2.2.2.2.2⟩) (fun hHeld => ?_)
  clear hK K hHeld
  (try simp only [Act.put, List.getElem_toArray, List.getElem_cons_succ, List.getElem_cons_zero, List.setIfInBounds_toArray, List.set_cons_zero, List.set_cons_succ])
  refine wpAnyH_done (by kernel_rfl) ?_ _
  refine NoPanic.normal ?_
  go_wp2_with fail
  have hld := (invA_ok A (R 0) (R 1) (R 2) (R 3) Y q r).load ((invA_ok A (R 0) (R 1) (R 2) (R 3) Y q r).stored HT1.out)
  refine bodyPost_ret (v := .agg (invA A (R 0) (R 1) (R 2) (R 3) Y q r)) (results_ev Tryd.results42 _ _ _ _ _ (by rfl) hld) rfl ⟨rfl, ?_⟩
  exact CQ.out H.out HM.out HQ.out _ _
end Go.Proofs.YtjkbfhojjjkgnaaDoor
