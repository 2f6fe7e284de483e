/-
  package node: New, fits, Make, Get.
-/
import Derived.Test.YtncopdhhchmpeaaGreatDoorNd
import Derived.Test.YtncopdhhchmpeaaGreatDoorKeyAny
namespace Go.Proofs.YtncopdhhchmpeaaGreatDoor
open Go.ChangeShapes Go.WideShapes Go.ChangeAt Go.RowKit
set_option linter.unusedVariables false
set_option maxRecDepth 100000 in
theorem nnew_ok (x : Int) (n : Nat) (hx : Hid (x = n)) (h1 : 1 ≤ n) (h2 : n ≤ 256) (w : World) :
    Calls Tryz.prog 91 #[.int .i64 x] w fun e w' => ∃ P p B G, e = .returned (.tuple #[.pointer (some ⟨P, 0, none⟩), .nilIface]) ∧ NdAt w' w.heap.size P p B G n n (fun _ => false) (fun _ => 0) (fun _ b => zc b) ∧ Below w.heap.size w w' := by
  rw [hx.out]
  obtain ⟨i0, hi, hz0, hz1, hz2⟩ := info_parts infoSlots
  have HI := Lib.hid (⟨hi, hz0, hz1, hz2⟩ : Tryz.prog.info? 163 = some i0 ∧ i0.zero = some (.agg zs80.toArray) ∧ i0.size = 80 ∧ i0.bytes = 640)
  clear hi hz0 hz1 hz2 hx
  go_enter Tryz.func91, Tryz.ntmps91
  go_wp2_with (first
    | (go_at_call 127; (with_reducible refine (anew_at _ n (Lib.hid rfl) h1 h2 _).mono ?_); rintro e w1 ⟨p, B, rfl, hA, hb⟩; have HA := Lib.hid hA; have HB := Lib.hid hb; clear hA hb)
    | (at_make; refine wpList_make_full _ rfl _ _ 148 rfl w.heap.size 163 i0 (.agg zs80.toArray) 80 Tryz.underlying148 HI.out.1 HI.out.2.1 HI.out.2.2.1 .i64 .i64 _ _ n rfl rfl rfl rfl ?b2 ?b3 ?b4 ?_))
  case b2 => rw [HI.out.2.2.2]; omega
  case b3 => unfold maxLen; omega
  case b4 => exact HB.out.size
  intro w2 hown hgrow
  have HO : Hid (w2.ownsRow w.heap.size 163 80 (.slice (some ⟨w1.heap.size, 0, none⟩) n n) n (flatV (fun _ b => zc b) n)) := Lib.hid (by rw [← flatV_made]; exact hown)
  have HG := Lib.hid (show Below w1.heap.size w1 w2 from (Below.refl _ _).grown hgrow (Nat.le_refl _) (fun k hk => by cases hk))
  clear hown hgrow
  go_wp2_with fail
  go_ret2
  have hp := HA.out.pl
  have hB := HA.out.lt
  have hG := (HO.out.lt w1.heap.size rfl)
  have hs := HG.out.size
  have hs1 := HB.out.size
  have h2' : ∀ o, Below w2.heap.size w2 (w2.alloc o) := fun o => (Below.refl _ _).alloc (Nat.le_refl _) o
  exact ⟨_, p, B, w1.heap.size, rfl, ⟨by simp, by omega, by simp, by simp, (HA.out.below HG.out).below (h2' _), HO.out.alloc _, by omega, by omega, by omega, by omega⟩, (HB.out.trans (HG.out.mono HB.out.size)).alloc (Nat.le_trans HB.out.size HG.out.size) _⟩
/-- A key's field as a value. -/
def kval (q : Nat) (x : Int) : Value := if q = 4 then .int .u32 x else .int .i64 x
theorem kval_one (q : Nat) (x : Int) : (kval q x).oneCell' = true := by unfold kval; split <;> rfl
/-- The cells of m keys. -/
def kcs (kk : Nat → Nat → Int) (m : Nat) : List Value := (List.range (m * 5)).map fun q => kval (q % 5) (kk (q / 5) (q % 5))
theorem kcs_len (kk : Nat → Nat → Int) (m : Nat) : (kcs kk m).length = m * 5 := by simp [kcs]
/-- Keys in a row, apart from the nodes. -/
structure SrcK (w : World) (a : Option Addr) (m : Nat) (kk : Nat → Nat → Int) (B G : Nat) : Prop where
  src : ∀ i, i < m → ∃ ad, a = some ad ∧ ad.block < w.heap.size ∧ ad.block ≠ B ∧ ad.block ≠ G ∧ ∀ q, q < 5 → w.cell? (ad.add (i * 5 + q)) = some (kval q (kk i q))
theorem SrcK.kept {w w' : World} {a : Option Addr} {m : Nat} {kk : Nat → Nat → Int} {B G g : Nat} (h : SrcK w a m kk B G) (hg : w.grownBy w' (some g)) (hB : g = B ∨ g = G) : SrcK w' a m kk B G := ⟨fun i hi => by
  obtain ⟨ad, h1, h2, h3, h4, h5⟩ := h.src i hi
  refine ⟨ad, h1, Nat.lt_of_lt_of_le h2 hg.size, h3, h4, fun q hq => (World.cell?_of_block (a := ad.add (i * 5 + q)) ?_).trans (h5 q hq)⟩
  rw [add_block']
  exact hg.block _ h2 (fun e => by injection e with e; rcases hB with rfl | rfl; exact h3 e; exact h4 e)⟩
theorem SrcK.below {w w' : World} {a : Option Addr} {m : Nat} {kk : Nat → Nat → Int} {B G : Nat} (h : SrcK w a m kk B G) (hb : Below w.heap.size w w') : SrcK w' a m kk B G := ⟨fun i hi => by
  obtain ⟨ad, h1, h2, h3, h4, h5⟩ := h.src i hi
  exact ⟨ad, h1, Nat.lt_of_lt_of_le h2 hb.size, h3, h4, fun q hq => (hb.cell (p := ad.add (i * 5 + q)) (by rw [add_block']; exact h2)).trans (h5 q hq)⟩⟩
/-- One key, with letters. -/
def InK (w : World) (e : Addr) (y0 y1 y2 y3 y4 : Int) : Prop := w.cell? e = some (.int .i64 y0) ∧ w.cell? ⟨e.block, e.off + 1, none⟩ = some (.int .i64 y1) ∧ w.cell? ⟨e.block, e.off + 2, none⟩ = some (.int .i64 y2) ∧ w.cell? ⟨e.block, e.off + 3, none⟩ = some (.int .i64 y3) ∧ w.cell? ⟨e.block, e.off + 4, none⟩ = some (.int .u32 y4)
theorem add_more (ad : Addr) (i j : Nat) : ad.add (i + (j + 1)) = ⟨(ad.add i).block, (ad.add i).off + (j + 1), none⟩ := by
  rw [← Go.Deep.add_add]
  rfl
theorem SrcK.in {w : World} {a : Option Addr} {m : Nat} {kk : Nat → Nat → Int} {B G : Nat} (h : SrcK w a m kk B G) (i : Nat) (hi : i < m) : ∃ ad, a = some ad ∧ InK w (ad.add (i * 5)) (kk i 0) (kk i 1) (kk i 2) (kk i 3) (kk i 4) := by
  obtain ⟨ad, h1, _, _, _, h5⟩ := h.src i hi
  have h50 := h5 0 (by decide)
  have h51 := h5 1 (by decide)
  have h52 := h5 2 (by decide)
  have h53 := h5 3 (by decide)
  have h54 := h5 4 (by decide)
  rw [add_more ad (i * 5) 0] at h51
  rw [add_more ad (i * 5) 1] at h52
  rw [add_more ad (i * 5) 2] at h53
  rw [add_more ad (i * 5) 3] at h54
  exact ⟨ad, h1, h50, h51, h52, h53, h54⟩
theorem SrcK.list {w : World} {a : Option Addr} {m : Nat} {kk : Nat → Nat → Int} {B G : Nat} (h : SrcK w a m kk B G) : 0 < m → ∃ ad, a = some ad ∧ ∀ j v, (kcs kk m)[j]? = some v → w.cell? (ad.add j) = some v := by
  intro h0
  obtain ⟨ad, h1, _⟩ := h.src 0 h0
  refine ⟨ad, h1, fun j v hj => ?_⟩
  have hlt : j < m * 5 := by
    rcases Nat.lt_or_ge j (m * 5) with h' | h'
    · exact h'
    · rw [List.getElem?_eq_none (by rw [kcs_len]; omega)] at hj; cases hj
  obtain ⟨ad', e1, _, _, _, h5⟩ := h.src (j / 5) (by omega)
  obtain rfl : ad = ad' := by rw [h1] at e1; exact Option.some.inj e1
  have h6 := h5 (j % 5) (by omega)
  rw [show j / 5 * 5 + j % 5 = j by omega] at h6
  rw [h6]
  simp only [kcs, List.getElem?_map, List.getElem?_range hlt, Option.map_some] at hj
  exact hj
theorem nvalid_ok (k0 k1 k2 k3 k4 : Int) (hk : Hid (rightB k0 k1 k2 k3 k4 = true)) (vs vr : Value) (w : World) (hE : ErrsAt vs vr w) :
    Calls Tryz.prog 70 #[(Value.agg #[.int .i64 k0, .int .i64 k1, .int .i64 k2, .int .i64 k3, .int .u32 k4])] w fun e w' => e = .returned .nilIface ∧ Below w.heap.size w w' :=
  (kvalid_any k0 k1 k2 k3 k4 vs vr w hE).mono fun e w' ⟨h1, h2⟩ => ⟨by rw [h1]; unfold kErr; rw [if_pos hk.out], h2⟩
theorem nvalid_bad (k0 k1 k2 k3 k4 : Int) (vs vr : Value) (z : Addr) (hk : Hid (kErr vs vr k0 k1 k2 k3 k4 = eV z)) (w : World) (hE : ErrsAt vs vr w) :
    Calls Tryz.prog 70 #[(Value.agg #[.int .i64 k0, .int .i64 k1, .int .i64 k2, .int .i64 k3, .int .u32 k4])] w fun e w' => e = .returned (eV z) ∧ Below w.heap.size w w' :=
  (kvalid_any k0 k1 k2 k3 k4 vs vr w hE).mono fun e w' ⟨h1, h2⟩ => ⟨by rw [h1, hk.out], h2⟩
def KRight (kk : Nat → Nat → Int) (i : Nat) : Prop := rightB (kk i 0) (kk i 1) (kk i 2) (kk i 3) (kk i 4) = true
set_option maxRecDepth 100000 in
theorem nfits_ok {B G : Nat} (vs vr : Value) (a : Option Addr) (m c2 : Nat) (hm : m ≤ 16) (kk : Nat → Nat → Int) (hk : Hid (∀ i, i < m → KRight kk i)) (w : World) (hE : ErrsAt vs vr w) (hs : SrcK w a m kk B G) :
    Calls Tryz.prog 92 #[.slice a m c2] w fun e w' => e = .returned .nilIface ∧ Below w.heap.size w w' := by
  have HE := Lib.hid hE
  have HS := Lib.hid hs
  have d0 : decide ((16 : Int) < (m : Int)) = false := by simp; omega
  clear hE hs
  go_enter Tryz.func92, Tryz.ntmps92
  go_wp2_with fail
  go_loopw [12] (fun i wr => ∃ k : Nat, k ≤ m ∧ i = .int .i64 k ∧ Below w.heap.size w wr) (fun i _ => m - (intOf i).toNat)
  case atStart => exact ⟨0, by omega, rfl, Below.refl _ _⟩
  case round =>
    obtain ⟨k, hkm, rfl, hb⟩ := hrel
    have HB := Lib.hid hb
    have HE1 := Lib.hid (HE.out.below hb)
    have HS1 := Lib.hid (HS.out.below hb)
    clear hb
    by_cases hlt : k < m
    · obtain ⟨ad, rfl, hin⟩ := HS1.out.in k hlt
      have hr := hk.out k hlt
      unfold KRight at hr
      generalize kk k 0 = y0 at hin hr
      generalize kk k 1 = y1 at hin hr
      generalize kk k 2 = y2 at hin hr
      generalize kk k 3 = y3 at hin hr
      generalize kk k 4 = y4 at hin hr
      obtain ⟨q0, q1, q2, q3, q4⟩ := hin
      have HR := Lib.hid hr
      have k0 : (0 : Int) ≤ k := by omega
      have k1 : (k : Int) < m := by omega
      clear hr
      go_wp2_with (first
        | (go_at_call 70; (with_reducible refine (nvalid_ok y0 y1 y2 y3 y4 HR vs vr _ (HE1.out.below ((Below.refl _ _).alloc (Nat.le_refl _) _))).mono ?_); rintro e w1 ⟨rfl, hb⟩; have HB2 := Lib.hid ((HB.out.alloc HB.out.size _).trans (hb.mono (by simp; have := HB.out.size; omega))); clear hb q0 q1 q2 q3 q4))
      go_roundw
      case rel => exact ⟨k + 1, by omega, by go_num, HB2.out⟩
      case measure => simp [intOf]; omega
    · obtain rfl : k = m := by omega
      have hdd : decide (k < k) = false := by simp
      go_wp2_with fail
      go_ret
      exact ⟨rfl, HB.out⟩
end Go.Proofs.YtncopdhhchmpeaaGreatDoor
