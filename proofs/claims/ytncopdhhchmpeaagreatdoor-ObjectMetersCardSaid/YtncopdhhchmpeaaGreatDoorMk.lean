/-
  package maker: what factories are in memory; New, Make, mayChange, Install, Seal, Sealed, Parts.
-/
import Derived.Test.YtncopdhhchmpeaaGreatDoorPl
import Derived.Test.YtncopdhhchmpeaaGreatDoorNdK
import Derived.Test.YtncopdhhchmpeaaGreatDoorSen
namespace Go.Proofs.YtncopdhhchmpeaaGreatDoor
open Go.ChangeShapes Go.WideShapes Go.ChangeAt Go.RowKit
set_option linter.unusedVariables false
def zk (b : Nat) : Value := if b = 0 then .bool false else if b % 5 = 0 then .int .u32 0 else .int .i64 0
def zs31 : List Value := (List.range 31).map zk
theorem zs31_len : zs31.length = 31 := by simp [zs31]
theorem infoFac31 : (Tryz.prog.info? 127).map (fun i => (i.zero, i.size, i.bytes)) = some (some (.agg zs31.toArray), 31, 248) := by kernel_rfl
theorem infoFacS : (Tryz.prog.info? 127).map (·.size) = some zs31.toArray.size := by kernel_rfl
theorem zs31_one : ∀ v ∈ zs31, v.oneCell' = true := by
  intro v hv
  obtain ⟨x, _, rfl⟩ := List.mem_map.1 hv
  unfold zk
  split
  · rfl
  · split <;> rfl
theorem zs31_all : zs31.toArray.all (·.oneCell') = true := all_oneCell_toArray zs31_one
theorem zs31_get (b : Nat) (hb : b < 31) : zs31.getD b (.int .i64 0) = zk b := by simp [zs31, List.getD, hb]
theorem zz_size : ((#[.bool false, .int .i64 0, .int .i64 0, .int .i64 0, .int .i64 0, .int .u32 0, .int .i64 0, .int .i64 0, .int .i64 0, .int .i64 0, .int .u32 0, .int .i64 0, .int .i64 0, .int .i64 0, .int .i64 0, .int .u32 0, .int .i64 0, .int .i64 0, .int .i64 0, .int .i64 0, .int .u32 0, .int .i64 0, .int .i64 0, .int .i64 0, .int .i64 0, .int .u32 0, .int .i64 0, .int .i64 0, .int .i64 0, .int .i64 0, .int .u32 0] : Array Value)).size = 31 := rfl
theorem zz_list : ((#[.bool false, .int .i64 0, .int .i64 0, .int .i64 0, .int .i64 0, .int .u32 0, .int .i64 0, .int .i64 0, .int .i64 0, .int .i64 0, .int .u32 0, .int .i64 0, .int .i64 0, .int .i64 0, .int .i64 0, .int .u32 0, .int .i64 0, .int .i64 0, .int .i64 0, .int .i64 0, .int .u32 0, .int .i64 0, .int .i64 0, .int .i64 0, .int .i64 0, .int .u32 0, .int .i64 0, .int .i64 0, .int .i64 0, .int .i64 0, .int .u32 0] : Array Value)).toList = zs31 := by kernel_rfl
theorem zz_one : ((#[.bool false, .int .i64 0, .int .i64 0, .int .i64 0, .int .i64 0, .int .u32 0, .int .i64 0, .int .i64 0, .int .i64 0, .int .i64 0, .int .u32 0, .int .i64 0, .int .i64 0, .int .i64 0, .int .i64 0, .int .u32 0, .int .i64 0, .int .i64 0, .int .i64 0, .int .i64 0, .int .u32 0, .int .i64 0, .int .i64 0, .int .i64 0, .int .i64 0, .int .u32 0, .int .i64 0, .int .i64 0, .int .i64 0, .int .i64 0, .int .u32 0] : Array Value)).all (·.oneCell') = true := by kernel_rfl
theorem infoZZ : (Tryz.prog.info? 127).map (·.size) = some ((#[.bool false, .int .i64 0, .int .i64 0, .int .i64 0, .int .i64 0, .int .u32 0, .int .i64 0, .int .i64 0, .int .i64 0, .int .i64 0, .int .u32 0, .int .i64 0, .int .i64 0, .int .i64 0, .int .i64 0, .int .u32 0, .int .i64 0, .int .i64 0, .int .i64 0, .int .i64 0, .int .u32 0, .int .i64 0, .int .i64 0, .int .i64 0, .int .i64 0, .int .u32 0, .int .i64 0, .int .i64 0, .int .i64 0, .int .i64 0, .int .u32 0] : Array Value)).size := by kernel_rfl
theorem PlAt.congrW {T : TypeId} {s : Nat} {w : World} {base P p B G n c : Nat} {th : Nat → Bool} {vr : Nat → Int} {W W' : Nat → Nat → Value} (h : PlAt T s w base P p B G n c th vr W) (hw : ∀ i j, i < n → j < s → W i j = W' i j) (h0 : 0 < s) : PlAt T s w base P p B G n c th vr W' := by
  have e : flatS s W n = flatS s W' n := by
    apply List.ext_getElem?
    intro j
    by_cases hj : j < n * s
    · have h1 : j / s < n := by rw [Nat.div_lt_iff_lt_mul h0]; exact hj
      simp [flatS, hj, hw (j / s) (j % s) h1 (Nat.mod_lt _ h0)]
    · rw [List.getElem?_eq_none (by rw [flatS_len]; omega), List.getElem?_eq_none (by rw [flatS_len]; omega)]
  exact ⟨h.pl, h.pb, h.f0, h.f1, h.ar, by rw [← e]; exact h.row, h.n1, h.n2, h.n3, h.n4⟩
set_option maxRecDepth 100000 in
theorem mknew_ok (x : Int) (n : Nat) (hx : Hid (x = n)) (h1 : 1 ≤ n) (h2 : n ≤ 256) (w : World) :
    Calls Tryz.prog 87 #[.int .i64 x] w fun e w' => ∃ P p B G, e = .returned (.tuple #[.pointer (some ⟨P, 0, none⟩), .nilIface]) ∧ PlAt 127 31 w' w.heap.size P p B G n n (fun _ => false) (fun _ => 0) (fun _ b => zk b) ∧ Below w.heap.size w w' := by
  rw [hx.out]
  obtain ⟨i0, hi, hz0, hz1, hz2⟩ := info_parts infoFac31
  have HI := Lib.hid (⟨hi, hz0, hz1, hz2⟩ : Tryz.prog.info? 127 = some i0 ∧ i0.zero = some (.agg zs31.toArray) ∧ i0.size = 31 ∧ i0.bytes = 248)
  clear hi hz0 hz1 hz2 hx
  go_enter Tryz.func87, Tryz.ntmps87
  go_wp2_with (first
    | (go_at_call 127; (with_reducible refine (anew_at _ n (Lib.hid rfl) h1 h2 _).mono ?_); rintro e w1 ⟨p, B, rfl, hA, hb⟩; have HA := Lib.hid hA; have HB := Lib.hid hb; clear hA hb)
    | (at_make; refine wpList_make_full _ rfl _ _ 106 rfl w.heap.size 127 i0 (.agg zs31.toArray) 31 Tryz.underlying106 HI.out.1 HI.out.2.1 HI.out.2.2.1 .i64 .i64 _ _ n rfl rfl rfl rfl ?b2 ?b3 ?b4 ?_))
  case b2 => rw [HI.out.2.2.2]; omega
  case b3 => unfold maxLen; omega
  case b4 => exact HB.out.size
  intro w2 hown hgrow
  have HO : Hid (w2.ownsRow w.heap.size 127 31 (.slice (some ⟨w1.heap.size, 0, none⟩) n n) n (flatS 31 (fun _ b => zs31.getD b (.int .i64 0)) n)) := Lib.hid (by
    have h := flatS_made zs31 n (by rw [zs31_len]; decide)
    rw [zs31_len] at h
    rw [← h]; exact hown)
  have HG := Lib.hid (show Below w1.heap.size w1 w2 from (Below.refl _ _).grown hgrow (Nat.le_refl _) (fun k hk => by cases hk))
  clear hown hgrow
  go_wp2_with fail
  go_ret2
  have hp := HA.out.pl
  have hB := HA.out.lt
  have hG := (HO.out.lt w1.heap.size rfl)
  have hs := HG.out.size
  have hs1 := HB.out.size
  have h2' : ∀ o, Below w2.heap.size w2 (w2.alloc o) := fun o => (Below.refl _ _).alloc (Nat.le_refl _) o
  refine ⟨_, p, B, w1.heap.size, rfl, PlAt.congrW (W := fun _ b => zs31.getD b (.int .i64 0)) ⟨by simp, by omega, by simp, by simp, (HA.out.below HG.out).below (h2' _), HO.out.alloc _, by omega, by omega, by omega, by omega⟩ (fun i j _ hj => zs31_get j hj) (by decide), (HB.out.trans (HG.out.mono HB.out.size)).alloc (Nat.le_trans HB.out.size HG.out.size) _⟩
set_option maxRecDepth 100000 in
set_option maxHeartbeats 1000000 in
theorem mkmake_ok {base P p B G n c : Nat} {th : Nat → Bool} {vr_ : Nat → Int} {W : Nat → Nat → Value} (id : Int) (j : Nat) (hid : Hid (id = j)) (hj : j < n) (hyes : Hid (freeB th vr_ j = true)) (hno : Hid (∀ i, i < j → freeB th vr_ i = false)) (v : Int) (hv : Hid (vr_ j = v)) (w : World) (h : PlAt 127 31 w base P p B G n c th vr_ W) :
    Calls Tryz.prog 30 #[.pointer (some ⟨P, 0, none⟩)] w fun e w' => e = .returned (.tuple #[.int .i64 id, .int .i64 v, .nilIface]) ∧ PlAt 127 31 w' base P p B G n c (upd th j true) vr_ (updS W j 0 zs31) ∧ PBelow w w' B G := by
  have H := Lib.hid h
  have f0 := h.f0
  have hn := h.ar.le
  have k0 : (0 : Int) ≤ j := by omega
  have k1 : (j : Int) < n := by omega
  have e := hid.out
  subst e
  clear h
  go_enter Tryz.func30, Tryz.ntmps30
  go_wp2_with (first
    | (go_at_call 65; (with_reducible refine (atake_ok _ H.out.ar j hj hyes hno v hv).mono ?_); rintro e w1 ⟨rfl, hA, hg⟩; have H1 := Lib.hid (H.out.turn hA hg); have HB1 := Lib.hid (PBelow.of (G := G) hg (.inl rfl)); have f1 := H1.out.f1; have HTh : Hid (w1.there G (j * 31) 31) := Lib.hid (H1.out.there j 0 31 hj (by decide)); clear hA hg f0)
    | (refine wpList_store_mid (by rfl) _ _ _ (by rfl) G (j * 31) (#[.bool false, .int .i64 0, .int .i64 0, .int .i64 0, .int .i64 0, .int .u32 0, .int .i64 0, .int .i64 0, .int .i64 0, .int .i64 0, .int .u32 0, .int .i64 0, .int .i64 0, .int .i64 0, .int .i64 0, .int .u32 0, .int .i64 0, .int .i64 0, .int .i64 0, .int .i64 0, .int .u32 0, .int .i64 0, .int .i64 0, .int .i64 0, .int .i64 0, .int .u32 0, .int .i64 0, .int .i64 0, .int .i64 0, .int .i64 0, .int .u32 0] : Array Value) (by rfl) (by rfl) HTh.out infoZZ zz_one ?_; obtain ⟨w2, hw2⟩ : ∃ w2, w2 = w1.setCells G (j * 31) ((#[.bool false, .int .i64 0, .int .i64 0, .int .i64 0, .int .i64 0, .int .u32 0, .int .i64 0, .int .i64 0, .int .i64 0, .int .i64 0, .int .u32 0, .int .i64 0, .int .i64 0, .int .i64 0, .int .i64 0, .int .u32 0, .int .i64 0, .int .i64 0, .int .i64 0, .int .i64 0, .int .u32 0, .int .i64 0, .int .i64 0, .int .i64 0, .int .i64 0, .int .u32 0, .int .i64 0, .int .i64 0, .int .i64 0, .int .i64 0, .int .u32 0] : Array Value)).toList := ⟨_, rfl⟩; rw [← hw2]; have H2 := Lib.hid (H1.out.cells j 0 hj zs31 (by rw [zs31_len]; decide)); rw [Nat.add_zero, ← zz_list, ← hw2] at H2; clear hw2))
  go_ret3
  exact ⟨rfl, H2.out.1, HB1.out.trans (PBelow.of H2.out.2 (.inr rfl))⟩
end Go.Proofs.YtncopdhhchmpeaaGreatDoor
