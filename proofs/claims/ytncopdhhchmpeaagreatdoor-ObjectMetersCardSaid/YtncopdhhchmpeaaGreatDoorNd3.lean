/-
  package node: fits of what may not be; Make; Get.
-/
import Derived.Test.YtncopdhhchmpeaaGreatDoorNd2
namespace Go.Proofs.YtncopdhhchmpeaaGreatDoor
open Go.ChangeShapes Go.WideShapes Go.ChangeAt Go.RowKit
set_option linter.unusedVariables false
set_option maxRecDepth 100000 in
theorem nfits_many (a : Option Addr) (m c2 : Nat) (hm : 16 < m) (v : Value) (w : World) (hE : w.cell? ⟨2, 0, none⟩ = some v) :
    Calls Tryz.prog 92 #[.slice a m c2] w fun e w' => e = .returned v ∧ Below w.heap.size w w' := by
  have d0 : decide ((16 : Int) < (m : Int)) = true := by simp; omega
  go_enter Tryz.func92, Tryz.ntmps92
  go_wp2_with fail
  go_ret
  exact ⟨rfl, Below.refl _ _⟩
set_option maxRecDepth 100000 in
theorem nfits_bad {B G : Nat} (vs vr : Value) (z : Addr) (a : Option Addr) (m c2 j : Nat) (hm : m ≤ 16) (hj : j < m) (kk : Nat → Nat → Int) (hk : Hid (∀ i, i < j → KRight kk i)) (hz : Hid (kErr vs vr (kk j 0) (kk j 1) (kk j 2) (kk j 3) (kk j 4) = eV z)) (w : World) (hE : ErrsAt vs vr w) (hs : SrcK w a m kk B G) :
    Calls Tryz.prog 92 #[.slice a m c2] w fun e w' => e = .returned (eV z) ∧ Below w.heap.size w w' := by
  have HE := Lib.hid hE
  have HS := Lib.hid hs
  have d0 : decide ((16 : Int) < (m : Int)) = false := by simp; omega
  clear hE hs
  go_enter Tryz.func92, Tryz.ntmps92
  go_wp2_with fail
  go_loopw [12] (fun i wr => ∃ k : Nat, k ≤ j ∧ i = .int .i64 k ∧ Below w.heap.size w wr) (fun i _ => m - (intOf i).toNat)
  case atStart => exact ⟨0, by omega, rfl, Below.refl _ _⟩
  case round =>
    obtain ⟨k, hkm, rfl, hb⟩ := hrel
    have HB := Lib.hid hb
    have HE1 := Lib.hid (HE.out.below hb)
    have HS1 := Lib.hid (HS.out.below hb)
    clear hb
    have k0 : (0 : Int) ≤ k := by omega
    have k1 : (k : Int) < m := by omega
    obtain ⟨ad, rfl, hin⟩ := HS1.out.in k (by omega)
    by_cases hlt : k < j
    · have hr := hk.out k hlt
      unfold KRight at hr
      generalize kk k 0 = y0 at hin hr
      generalize kk k 1 = y1 at hin hr
      generalize kk k 2 = y2 at hin hr
      generalize kk k 3 = y3 at hin hr
      generalize kk k 4 = y4 at hin hr
      obtain ⟨q0, q1, q2, q3, q4⟩ := hin
      have HR := Lib.hid hr
      clear hr
      go_wp2_with (first
        | (go_at_call 70; (with_reducible refine (nvalid_ok y0 y1 y2 y3 y4 HR vs vr _ (HE1.out.below ((Below.refl _ _).alloc (Nat.le_refl _) _))).mono ?_); rintro e w1 ⟨rfl, hb⟩; have HB2 := Lib.hid ((HB.out.alloc HB.out.size _).trans (hb.mono (by simp; have := HB.out.size; omega))); clear hb q0 q1 q2 q3 q4))
      go_roundw
      case rel => exact ⟨k + 1, by omega, by go_num, HB2.out⟩
      case measure => simp [intOf]; omega
    · obtain rfl : k = j := by omega
      have hr := hz.out
      generalize kk k 0 = y0 at hin hr
      generalize kk k 1 = y1 at hin hr
      generalize kk k 2 = y2 at hin hr
      generalize kk k 3 = y3 at hin hr
      generalize kk k 4 = y4 at hin hr
      obtain ⟨q0, q1, q2, q3, q4⟩ := hin
      have HR := Lib.hid hr
      clear hr
      go_wp2_with (first
        | (go_at_call 70; (with_reducible refine (nvalid_bad y0 y1 y2 y3 y4 vs vr z HR _ (HE1.out.below ((Below.refl _ _).alloc (Nat.le_refl _) _))).mono ?_); rintro e w1 ⟨rfl, hb⟩; have HB2 := Lib.hid ((HB.out.alloc HB.out.size _).trans (hb.mono (by simp; have := HB.out.size; omega))); clear hb q0 q1 q2 q3 q4))
      go_ret
      exact ⟨rfl, HB2.out⟩
/-- What a node of these cells is. -/
def freshV (W : Nat → Nat → Value) (i : Nat) (xs : List Value) : Nat → Nat → Value := updV (updV W i 0 zs80) i 0 xs
theorem freshV_other (W : Nat → Nat → Value) (i : Nat) (xs : List Value) (a b : Nat) (h : a ≠ i) : freshV W i xs a b = W a b := by
  unfold freshV updV
  rw [if_neg (fun e => h e.1), if_neg (fun e => h e.1)]
theorem freshV_in (W : Nat → Nat → Value) (i : Nat) (xs : List Value) (b : Nat) (h : b < xs.length) : some (freshV W i xs i b) = xs[b]? := by
  unfold freshV
  unfold updV
  rw [if_pos ⟨rfl, by omega, by omega⟩]
  simp [List.getD, h]
theorem freshV_out (W : Nat → Nat → Value) (i : Nat) (xs : List Value) (b : Nat) (h : xs.length ≤ b) (hb : b < 80) : freshV W i xs i b = zc b := by
  unfold freshV
  rw [updV, if_neg (by omega), updV, if_pos ⟨rfl, by omega, by rw [zs80_len]; omega⟩]
  simp [List.getD, zs80, hb]
set_option maxRecDepth 100000 in
set_option maxHeartbeats 1000000 in
theorem nmake_ok {base P p B G n c : Nat} {th : Nat → Bool} {vr_ : Nat → Int} {W : Nat → Nat → Value} (vs vr : Value) (a : Option Addr) (m c2 : Nat) (kk : Nat → Nat → Int) (hx : m ≤ 16) (hk : Hid (∀ i, i < m → KRight kk i)) (j : Nat) (hj : j < n) (hyes : Hid (freeB th vr_ j = true)) (hno : Hid (∀ i, i < j → freeB th vr_ i = false)) (v : Int) (hv : Hid (vr_ j = v)) (w : World) (hE : ErrsAt vs vr w) (h : NdAt w base P p B G n c th vr_ W) (hs : SrcK w a m kk B G) :
    Calls Tryz.prog 52 #[.pointer (some ⟨P, 0, none⟩), .slice a m c2] w fun e w' => e = .returned (.tuple #[.int .i64 j, .int .i64 v, .nilIface]) ∧ NdAt w' base P p B G n c (upd th j true) vr_ (freshV W j (kcs kk m)) ∧ PBelow w w' B G := by
  have H := Lib.hid h
  have HS := Lib.hid hs
  have HE := Lib.hid hE
  have f0 := h.f0
  have hn := h.ar.le
  have k0 : (0 : Int) ≤ j := by omega
  have k1 : (j : Int) < n := by omega
  clear h hs hE
  go_enter Tryz.func52, Tryz.ntmps52
  go_wp2_with (first
    | (go_at_call 92; (with_reducible refine (nfits_ok vs vr a m c2 hx kk hk _ HE.out HS.out).mono ?_); rintro e w0 ⟨rfl, hb0⟩; have H0 := Lib.hid (H.out.below hb0); have HS0 := Lib.hid (HS.out.below hb0); have HB0 := Lib.hid (PBelow.of_below (B := B) (G := G) hb0); have f9 := H0.out.f0; clear hb0 f0)
    | (go_at_call 65; (with_reducible refine (atake_ok _ H0.out.ar j hj hyes hno v hv).mono ?_); rintro e w1 ⟨rfl, hA, hg⟩; have H1 := Lib.hid (H0.out.turn hA hg); have HS1 := Lib.hid (HS0.out.kept hg (.inl rfl)); have HB1 := Lib.hid (HB0.out.trans (PBelow.of (G := G) hg (.inl rfl))); have f1 := H1.out.f1; obtain ⟨w2, hcl, hP2, hg2⟩ := H1.out.clear j hj; have H2 := Lib.hid hP2; have HS2 := Lib.hid (HS1.out.kept hg2 (.inr rfl)); have HB2 := Lib.hid (HB1.out.trans (PBelow.of hg2 (.inr rfl))); have f2 := H2.out.f1; obtain ⟨w3, hcp, hP3, hg3⟩ := H2.out.copy j hj a m c2 (kcs kk m) (kcs_len kk m) hx (fun v hv => by obtain ⟨x, _, rfl⟩ := List.mem_map.1 hv; exact kval_one _ _) HS2.out.list; have H3 := Lib.hid hP3; have HB3 := Lib.hid (HB2.out.trans (PBelow.of hg3 (.inr rfl))); clear hA hg hP2 hg2 hP3 hg3 f9))
  go_ret3
  exact ⟨rfl, H3.out, HB3.out⟩
theorem nmake_err {base P p B G n c : Nat} {th : Nat → Bool} {vr_ : Nat → Int} {W : Nat → Nat → Value} (z : Addr) (a : Option Addr) (m c2 : Nat) (w : World) (h : NdAt w base P p B G n c th vr_ W) (HF : Hid (Calls Tryz.prog 92 #[.slice a m c2] w fun e w' => e = .returned (eV z) ∧ Below w.heap.size w w')) :
    Calls Tryz.prog 52 #[.pointer (some ⟨P, 0, none⟩), .slice a m c2] w fun e w' => e = .returned (.tuple #[.int .i64 0, .int .i64 0, eV z]) ∧ Below w.heap.size w w' := by
  clear h
  go_enter Tryz.func52, Tryz.ntmps52
  go_wp2_with (first
    | (go_at_call 92; (with_reducible refine HF.out.mono ?_); rintro e w0 ⟨rfl, hb0⟩; have HB0 := Lib.hid hb0; clear hb0))
  go_ret3
  exact ⟨rfl, HB0.out⟩
theorem nget_is {base P p B G n c : Nat} {th : Nat → Bool} {vr_ : Nat → Int} {W : Nat → Nat → Value} (k s : Nat) (hk : k < n) (hs : s < 16) (ht : Hid (th k = true)) (y0 y1 y2 y3 y4 : Int) (h0 : W k (s * 5) = .int .i64 y0) (h1 : W k (s * 5 + 1) = .int .i64 y1) (h2 : W k (s * 5 + 2) = .int .i64 y2) (h3 : W k (s * 5 + 3) = .int .i64 y3) (h4 : W k (s * 5 + 4) = .int .u32 y4) (w : World) (h : NdAt w base P p B G n c th vr_ W) :
    Calls Tryz.prog 173 #[.pointer (some ⟨P, 0, none⟩), .int .i64 k, .int .i64 s] w fun e w' => e = .returned (.tuple #[(Value.agg #[.int .i64 y0, .int .i64 y1, .int .i64 y2, .int .i64 y3, .int .u32 y4]), .bool true]) ∧ Below w.heap.size w w' := by
  have H := Lib.hid h
  have hlP := h.pl
  have hlG := (h.row.lt G rfl).2
  have c0 := h.cell k (s * 5) hk (by omega)
  have c1 := h.cell k (s * 5 + 1) hk (by omega)
  have c2 := h.cell k (s * 5 + 2) hk (by omega)
  have c3 := h.cell k (s * 5 + 3) hk (by omega)
  have c4 := h.cell k (s * 5 + 4) hk (by omega)
  rw [h0] at c0
  rw [h1, ← Nat.add_assoc] at c1
  rw [h2, ← Nat.add_assoc] at c2
  rw [h3, ← Nat.add_assoc] at c3
  rw [h4, ← Nat.add_assoc] at c4
  have up : ∀ (X : Obj) (b o : Nat) (v : Value), b < w.heap.size → w.cell? ⟨b, o, none⟩ = some v → (w.alloc X).cell? ⟨b, o, none⟩ = some v := fun X b o v hb hv => (World.cell?_alloc_lt w X ⟨b, o, none⟩ hb).trans hv
  have f0 : ∀ X, (w.alloc X).cell? ⟨P, 0, none⟩ = _ := fun X => up X P 0 _ hlP h.f0
  have f1 : ∀ X, (w.alloc X).cell? ⟨P, 1, none⟩ = _ := fun X => up X P 1 _ hlP h.f1
  have d0 : ∀ X, (w.alloc X).cell? _ = _ := fun X => up X _ _ _ hlG c0
  have d1 : ∀ X, (w.alloc X).cell? _ = _ := fun X => up X _ _ _ hlG c1
  have d2 : ∀ X, (w.alloc X).cell? _ = _ := fun X => up X _ _ _ hlG c2
  have d3 : ∀ X, (w.alloc X).cell? _ = _ := fun X => up X _ _ _ hlG c3
  have d4 : ∀ X, (w.alloc X).cell? _ = _ := fun X => up X _ _ _ hlG c4
  have a0 : (0 : Int) ≤ s := by omega
  have a1 : (s : Int) < 16 := by omega
  have k0 : (0 : Int) ≤ k := by omega
  have k1 : (k : Int) < n := by omega
  have HSl : Hid (∀ u : World, Calls Tryz.prog 198 #[.int .i64 s] u fun e w' => e = .returned (.bool true) ∧ u = w') := Lib.hid (fun u => by
    go_enter Tryz.func198, Tryz.ntmps198
    go_wp2
    go_ret
    exact ⟨rfl, rfl⟩)
  clear h h0 h1 h2 h3 h4 up c0 c1 c2 c3 c4 hlP hlG
  go_enter Tryz.func173, Tryz.ntmps173
  go_wp2_with (first
    | (go_at_call 63; (with_reducible refine (athere_in k hk true ht _ (H.out.below ((Below.refl _ _).alloc (Nat.le_refl _) _)).ar).mono ?_); rintro e w1 ⟨rfl, rfl⟩)
    | (go_at_call 198; (with_reducible refine (HSl.out _).mono ?_); rintro e w1 ⟨rfl, rfl⟩))
  refine bodyPost_ret (v := .tuple #[(Value.agg #[.int .i64 y0, .int .i64 y1, .int .i64 y2, .int .i64 y3, .int .u32 y4]), .bool true]) (by simp [results, Tryz.results173, go_sem]) rfl ⟨rfl, ?_⟩
  exact (Below.refl _ _).alloc (Nat.le_refl _) _
end Go.Proofs.YtncopdhhchmpeaaGreatDoor
