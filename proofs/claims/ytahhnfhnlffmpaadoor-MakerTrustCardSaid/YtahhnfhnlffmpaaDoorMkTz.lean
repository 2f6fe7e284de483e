/-
  Mk, Mk2, Mk3, MkF, MkU, MkT as one.
-/
import Derived.Test.YtahhnfhnlffmpaaDoorZ3
import Derived.Test.YtahhnfhnlffmpaaDoorZ2
namespace Go.Proofs.YtahhnfhnlffmpaaDoor
open Go.ChangeShapes Go.WideShapes Go.ChangeAt Go.RowKit
set_option linter.unusedVariables false
def zk (b : Nat) : Value := if b = 0 then .bool false else if b % 5 = 0 then .int .u32 0 else .int .i64 0
def zs31 : List Value := (List.range 31).map zk
theorem zs31_len : zs31.length = 31 := by simp [zs31]
theorem infoFac31 : (Tryd.prog.info? 147).map (fun i => (i.zero, i.size, i.bytes)) = some (some (.agg zs31.toArray), 31, 248) := by kernel_rfl
theorem infoFacS : (Tryd.prog.info? 147).map (·.size) = some zs31.toArray.size := by kernel_rfl
theorem zs31_one : ∀ v ∈ zs31, v.oneCell' = true := by
  intro v hv
  obtain ⟨x, _, rfl⟩ := List.mem_map.1 hv
  unfold zk
  split
  · rfl
  · split <;> rfl
theorem zs31_all : zs31.toArray.all (·.oneCell') = true := all_oneCell_toArray zs31_one
theorem zs31_get (b : Nat) (hb : b < 31) : zs31.getD b (.int .i64 0) = zk b := by simp [zs31, List.getD, hb]
theorem zz_size : ((#[.bool false, .int .i64 0, .int .i64 0, .int .i64 0, .int .i64 0, .int .u32 0, .int .i64 0, .int .i64 0, .int .i64 0, .int .i64 0, .int .u32 0, .int .i64 0, .int .i64 0, .int .i64 0, .int .i64 0, .int .u32 0, .int .i64 0, .int .i64 0, .int .i64 0, .int .i64 0, .int .u32 0, .int .i64 0, .int .i64 0, .int .i64 0, .int .i64 0, .int .u32 0, .int .i64 0, .int .i64 0, .int .i64 0, .int .i64 0, .int .u32 0] : Array Value)).size = 31 := rfl
theorem zz_list : ((#[.bool false, .int .i64 0, .int .i64 0, .int .i64 0, .int .i64 0, .int .u32 0, .int .i64 0, .int .i64 0, .int .i64 0, .int .i64 0, .int .u32 0, .int .i64 0, .int .i64 0, .int .i64 0, .int .i64 0, .int .u32 0, .int .i64 0, .int .i64 0, .int .i64 0, .int .i64 0, .int .u32 0, .int .i64 0, .int .i64 0, .int .i64 0, .int .i64 0, .int .u32 0, .int .i64 0, .int .i64 0, .int .i64 0, .int .i64 0, .int .u32 0] : Array Value)).toList = zs31 := by kernel_rfl
theorem zz_one : ((#[.bool false, .int .i64 0, .int .i64 0, .int .i64 0, .int .i64 0, .int .u32 0, .int .i64 0, .int .i64 0, .int .i64 0, .int .i64 0, .int .u32 0, .int .i64 0, .int .i64 0, .int .i64 0, .int .i64 0, .int .u32 0, .int .i64 0, .int .i64 0, .int .i64 0, .int .i64 0, .int .u32 0, .int .i64 0, .int .i64 0, .int .i64 0, .int .i64 0, .int .u32 0, .int .i64 0, .int .i64 0, .int .i64 0, .int .i64 0, .int .u32 0] : Array Value)).all (·.oneCell') = true := by kernel_rfl
theorem infoZZ : (Tryd.prog.info? 147).map (·.size) = some ((#[.bool false, .int .i64 0, .int .i64 0, .int .i64 0, .int .i64 0, .int .u32 0, .int .i64 0, .int .i64 0, .int .i64 0, .int .i64 0, .int .u32 0, .int .i64 0, .int .i64 0, .int .i64 0, .int .i64 0, .int .u32 0, .int .i64 0, .int .i64 0, .int .i64 0, .int .i64 0, .int .u32 0, .int .i64 0, .int .i64 0, .int .i64 0, .int .i64 0, .int .u32 0, .int .i64 0, .int .i64 0, .int .i64 0, .int .i64 0, .int .u32 0] : Array Value)).size := by kernel_rfl
theorem PlAt.congrW {T : TypeId} {s : Nat} {w : World} {base P p B G n c : Nat} {th : Nat → Bool} {vr : Nat → Int} {W W' : Nat → Nat → Value} (h : PlAt T s w base P p B G n c th vr W) (hw : ∀ i j, i < n → j < s → W i j = W' i j) (h0 : 0 < s) : PlAt T s w base P p B G n c th vr W' := by
  have e : flatS s W n = flatS s W' n := by
    apply List.ext_getElem?
    intro j
    by_cases hj : j < n * s
    · have h1 : j / s < n := by rw [Nat.div_lt_iff_lt_mul h0]; exact hj
      simp [flatS, hj, hw (j / s) (j % s) h1 (Nat.mod_lt _ h0)]
    · rw [List.getElem?_eq_none (by rw [flatS_len]; omega), List.getElem?_eq_none (by rw [flatS_len]; omega)]
  exact ⟨h.pl, h.pb, h.f0, h.f1, h.ar, by rw [← e]; exact h.row, h.n1, h.n2, h.n3, h.n4⟩
set_option maxRecDepth 100000 in
theorem mknew_ok (x : Int) (n : Nat) (hx : Hid (x = n)) (h1 : 1 ≤ n) (h2 : n ≤ 256) (w : World) :
    Calls Tryd.prog 39 #[.int .i64 x] w fun e w' => ∃ P p B G, e = .returned (.tuple #[.pointer (some ⟨P, 0, none⟩), .nilIface]) ∧ PlAt 147 31 w' w.heap.size P p B G n n (fun _ => false) (fun _ => 0) (fun _ b => zk b) ∧ Below w.heap.size w w' := by
  rw [hx.out]
  obtain ⟨i0, hi, hz0, hz1, hz2⟩ := info_parts infoFac31
  have HI := Lib.hid (⟨hi, hz0, hz1, hz2⟩ : Tryd.prog.info? 147 = some i0 ∧ i0.zero = some (.agg zs31.toArray) ∧ i0.size = 31 ∧ i0.bytes = 248)
  clear hi hz0 hz1 hz2 hx
  go_enter Tryd.func39, Tryd.ntmps39
  go_wp2_with (first
    | (go_at_call 52; (with_reducible refine (anew_at _ n (Lib.hid rfl) h1 h2 _).mono ?_); rintro e w1 ⟨p, B, rfl, hA, hb⟩; have HA := Lib.hid hA; have HB := Lib.hid hb; clear hA hb)
    | (at_make; refine wpList_make_full _ rfl _ _ 141 rfl w.heap.size 147 i0 (.agg zs31.toArray) 31 Tryd.underlying141 HI.out.1 HI.out.2.1 HI.out.2.2.1 .i64 .i64 _ _ n rfl rfl rfl rfl ?b2 ?b3 ?b4 ?_))
  case b2 => rw [HI.out.2.2.2]; omega
  case b3 => unfold maxLen; omega
  case b4 => exact HB.out.size
  intro w2 hown hgrow
  have HO : Hid (w2.ownsRow w.heap.size 147 31 (.slice (some ⟨w1.heap.size, 0, none⟩) n n) n (flatS 31 (fun _ b => zs31.getD b (.int .i64 0)) n)) := Lib.hid (by
    have h := flatS_made zs31 n (by rw [zs31_len]; decide)
    rw [zs31_len] at h
    rw [← h]; exact hown)
  have HG := Lib.hid (show Below w1.heap.size w1 w2 from (Below.refl _ _).grown hgrow (Nat.le_refl _) (fun k hk => by cases hk))
  clear hown hgrow
  go_wp2_with fail
  go_ret2
  have hp := HA.out.pl
  have hB := HA.out.lt
  have hG := (HO.out.lt w1.heap.size rfl)
  have hs := HG.out.size
  have hs1 := HB.out.size
  have h2' : ∀ o, Below w2.heap.size w2 (w2.alloc o) := fun o => (Below.refl _ _).alloc (Nat.le_refl _) o
  refine ⟨_, p, B, w1.heap.size, rfl, PlAt.congrW (W := fun _ b => zs31.getD b (.int .i64 0)) ⟨by simp, by omega, by simp, by simp, (HA.out.below HG.out).below (h2' _), HO.out.alloc _, by omega, by omega, by omega, by omega⟩ (fun i j _ hj => zs31_get j hj) (by decide), (HB.out.trans (HG.out.mono HB.out.size)).alloc (Nat.le_trans HB.out.size HG.out.size) _⟩
set_option maxRecDepth 100000 in
set_option maxHeartbeats 1000000 in
theorem mkmake_ok {base P p B G n c : Nat} {th : Nat → Bool} {vr_ : Nat → Int} {W : Nat → Nat → Value} (id : Int) (j : Nat) (hid : Hid (id = j)) (hj : j < n) (hyes : Hid (freeB th vr_ j = true)) (hno : Hid (∀ i, i < j → freeB th vr_ i = false)) (v : Int) (hv : Hid (vr_ j = v)) (w : World) (h : PlAt 147 31 w base P p B G n c th vr_ W) :
    Calls Tryd.prog 44 #[.pointer (some ⟨P, 0, none⟩)] w fun e w' => e = .returned (.tuple #[.int .i64 id, .int .i64 v, .nilIface]) ∧ PlAt 147 31 w' base P p B G n c (upd th j true) vr_ (updS W j 0 zs31) ∧ PBelow w w' B G := by
  have H := Lib.hid h
  have f0 := h.f0
  have hn := h.ar.le
  have k0 : (0 : Int) ≤ j := by omega
  have k1 : (j : Int) < n := by omega
  have e := hid.out
  subst e
  clear h
  go_enter Tryd.func44, Tryd.ntmps44
  go_wp2_with (first
    | (go_at_call 58; (with_reducible refine (atake_ok _ H.out.ar j hj hyes hno v hv).mono ?_); rintro e w1 ⟨rfl, hA, hg⟩; have H1 := Lib.hid (H.out.turn hA hg); have HB1 := Lib.hid (PBelow.of (G := G) hg (.inl rfl)); have f1 := H1.out.f1; have HTh : Hid (w1.there G (j * 31) 31) := Lib.hid (H1.out.there j 0 31 hj (by decide)); clear hA hg f0)
    | (refine wpList_store_mid (by rfl) _ _ _ (by rfl) G (j * 31) (#[.bool false, .int .i64 0, .int .i64 0, .int .i64 0, .int .i64 0, .int .u32 0, .int .i64 0, .int .i64 0, .int .i64 0, .int .i64 0, .int .u32 0, .int .i64 0, .int .i64 0, .int .i64 0, .int .i64 0, .int .u32 0, .int .i64 0, .int .i64 0, .int .i64 0, .int .i64 0, .int .u32 0, .int .i64 0, .int .i64 0, .int .i64 0, .int .i64 0, .int .u32 0, .int .i64 0, .int .i64 0, .int .i64 0, .int .i64 0, .int .u32 0] : Array Value) (by rfl) (by rfl) HTh.out infoZZ zz_one ?_; obtain ⟨w2, hw2⟩ : ∃ w2, w2 = w1.setCells G (j * 31) ((#[.bool false, .int .i64 0, .int .i64 0, .int .i64 0, .int .i64 0, .int .u32 0, .int .i64 0, .int .i64 0, .int .i64 0, .int .i64 0, .int .u32 0, .int .i64 0, .int .i64 0, .int .i64 0, .int .i64 0, .int .u32 0, .int .i64 0, .int .i64 0, .int .i64 0, .int .i64 0, .int .u32 0, .int .i64 0, .int .i64 0, .int .i64 0, .int .i64 0, .int .u32 0, .int .i64 0, .int .i64 0, .int .i64 0, .int .i64 0, .int .u32 0] : Array Value)).toList := ⟨_, rfl⟩; rw [← hw2]; have H2 := Lib.hid (H1.out.cells j 0 hj zs31 (by rw [zs31_len]; decide)); rw [Nat.add_zero, ← zz_list, ← hw2] at H2; clear hw2))
  go_ret3
  exact ⟨rfl, H2.out.1, HB1.out.trans (PBelow.of H2.out.2 (.inr rfl))⟩
end Go.Proofs.YtahhnfhnlffmpaaDoor
namespace Go.Proofs.YtahhnfhnlffmpaaDoor
open Go.ChangeShapes Go.WideShapes Go.ChangeAt Go.RowKit
set_option linter.unusedVariables false
/-- The cells of factories. -/
def mkW (sl : Nat → Bool) (ky : Nat → Nat → Nat → Int) : Nat → Nat → Value := fun i b => if b = 0 then .bool (sl i) else kval ((b - 1) % 5) (ky i ((b - 1) / 5) ((b - 1) % 5))
def MkAt (w : World) (base P p B G n c : Nat) (th : Nat → Bool) (vr : Nat → Int) (sl : Nat → Bool) (ky : Nat → Nat → Nat → Int) : Prop := PlAt 147 31 w base P p B G n c th vr (mkW sl ky)
theorem mkW_key (sl : Nat → Bool) (ky : Nat → Nat → Nat → Int) (i a q : Nat) (hq : q < 5) : mkW sl ky i (1 + a * 5 + q) = kval q (ky i a q) := by
  unfold mkW
  rw [if_neg (by omega)]
  have e1 : (1 + a * 5 + q - 1) % 5 = q := by omega
  have e2 : (1 + a * 5 + q - 1) / 5 = a := by omega
  rw [e1, e2]
theorem mkW_one (sl : Nat → Bool) (ky : Nat → Nat → Nat → Int) (i b : Nat) : (mkW sl ky i b).oneCell' = true := by
  unfold mkW
  split
  · rfl
  · exact kval_one _ _
/-- One part anew. -/
def updP (ky : Nat → Nat → Nat → Int) (i a : Nat) (y0 y1 y2 y3 y4 : Int) : Nat → Nat → Nat → Int := fun i' a' q => if i' = i ∧ a' = a then (if q = 0 then y0 else if q = 1 then y1 else if q = 2 then y2 else if q = 3 then y3 else y4) else ky i' a' q
theorem updP_at (ky : Nat → Nat → Nat → Int) (i a : Nat) (y0 y1 y2 y3 y4 : Int) : updP ky i a y0 y1 y2 y3 y4 i a 0 = y0 ∧ updP ky i a y0 y1 y2 y3 y4 i a 1 = y1 ∧ updP ky i a y0 y1 y2 y3 y4 i a 2 = y2 ∧ updP ky i a y0 y1 y2 y3 y4 i a 3 = y3 ∧ updP ky i a y0 y1 y2 y3 y4 i a 4 = y4 := by simp [updP]
theorem updP_other (ky : Nat → Nat → Nat → Int) (i a : Nat) (y0 y1 y2 y3 y4 : Int) (i' a' q : Nat) (h : ¬ (i' = i ∧ a' = a)) : updP ky i a y0 y1 y2 y3 y4 i' a' q = ky i' a' q := by unfold updP; rw [if_neg h]
theorem kval5 (y0 y1 y2 y3 y4 : Int) (q : Nat) (hq : q < 5) (v : Value) (hv : (k5 y0 y1 y2 y3 y4)[q]? = some v) : v = kval q (if q = 0 then y0 else if q = 1 then y1 else if q = 2 then y2 else if q = 3 then y3 else y4) := by
  rcases five q hq with rfl | rfl | rfl | rfl | rfl <;> simp [k5] at hv <;> subst hv <;> simp [kval]
theorem mkW_part (sl : Nat → Bool) (ky : Nat → Nat → Nat → Int) (i a : Nat) (y0 y1 y2 y3 y4 : Int) (i' b : Nat) : updS (mkW sl ky) i (1 + a * 5) (k5 y0 y1 y2 y3 y4) i' b = mkW sl (updP ky i a y0 y1 y2 y3 y4) i' b := by
  have hl : (k5 y0 y1 y2 y3 y4).length = 5 := rfl
  by_cases h : i' = i ∧ 1 + a * 5 ≤ b ∧ b < 1 + a * 5 + 5
  · obtain ⟨rfl, h1, h2⟩ := h
    obtain ⟨q, hq, rfl⟩ : ∃ q, q < 5 ∧ b = 1 + a * 5 + q := ⟨b - (1 + a * 5), by omega, by omega⟩
    have e := updS_in (mkW sl ky) i' (1 + a * 5) (k5 y0 y1 y2 y3 y4) q (by rw [hl]; exact hq)
    rw [kval5 _ _ _ _ _ q hq _ e.symm, mkW_key _ _ _ _ _ hq]
    simp [updP]
  · rw [updS_other _ _ _ _ _ _ (by rw [hl]; exact h)]
    unfold mkW
    by_cases hb : b = 0
    · rw [if_pos hb, if_pos hb]
    · rw [if_neg hb, if_neg hb, updP_other _ _ _ _ _ _ _ _ _ _ _ (by rintro ⟨e1, e2⟩; exact h ⟨e1, by omega, by omega⟩)]
theorem mkW_new (sl : Nat → Bool) (ky : Nat → Nat → Nat → Int) (i : Nat) (i' b : Nat) (hb : b < 31) : updS (mkW sl ky) i 0 zs31 i' b = mkW (upd sl i false) (upd ky i (fun _ _ => 0)) i' b := by
  by_cases h : i' = i
  · subst h
    have e := updS_in (mkW sl ky) i' 0 zs31 b (by rw [zs31_len]; exact hb)
    rw [Nat.zero_add] at e
    have e2 : zs31[b]? = some (zk b) := by simp [zs31, hb]
    rw [e2] at e
    rw [Option.some.inj e]
    unfold mkW zk
    rw [upd_at, upd_at]
    by_cases h0 : b = 0
    · rw [if_pos h0, if_pos h0]
    · rw [if_neg h0, if_neg h0]
      unfold kval
      by_cases h5 : b % 5 = 0
      · rw [if_pos h5, if_pos (by omega)]
      · rw [if_neg h5, if_neg (by omega)]
  · rw [updS_other _ _ _ _ _ _ (by omega)]
    unfold mkW
    rw [upd_other _ _ _ _ h, upd_other _ _ _ _ h]
theorem mkW_seal (sl : Nat → Bool) (ky : Nat → Nat → Nat → Int) (i : Nat) (t : Bool) (i' b : Nat) : updS (mkW sl ky) i 0 [.bool t] i' b = mkW (upd sl i t) ky i' b := by
  by_cases h : i' = i ∧ b = 0
  · obtain ⟨rfl, rfl⟩ := h
    simp [updS, mkW, upd]
  · rw [updS_other _ _ _ _ _ _ (by simp; omega)]
    unfold mkW
    by_cases hb : b = 0
    · rw [if_pos hb, if_pos hb, upd_other _ _ _ _ (fun e => h ⟨e, hb⟩)]
    · rw [if_neg hb, if_neg hb]
section
variable {w w' : World} {base P p B G n c : Nat} {th th' : Nat → Bool} {vr_ vr' : Nat → Int} {sl : Nat → Bool} {ky : Nat → Nat → Nat → Int}
theorem MkAt.pl (h : MkAt w base P p B G n c th vr_ sl ky) : PlAt 147 31 w base P p B G n c th vr_ (mkW sl ky) := h
theorem MkAt.ar (h : MkAt w base P p B G n c th vr_ sl ky) : ArAt w base p B n c th vr_ := h.pl.ar
theorem MkAt.below (h : MkAt w base P p B G n c th vr_ sl ky) (hb : Below w.heap.size w w') : MkAt w' base P p B G n c th vr_ sl ky := h.pl.below hb
theorem MkAt.congr (h : MkAt w base P p B G n c th vr_ sl ky) (h1 : ∀ i, i < n → th i = th' i) (h2 : ∀ i, i < n → vr_ i = vr' i) : MkAt w base P p B G n c th' vr' sl ky := h.pl.congr h1 h2
theorem MkAt.s0 (h : MkAt w base P p B G n c th vr_ sl ky) (i : Nat) (hi : i < n) : w.cell? ⟨G, i * 31, none⟩ = some (.bool (sl i)) := h.pl.cell i 0 hi (by decide)
end
set_option maxRecDepth 100000 in
theorem mknew_is (x : Int) (n : Nat) (hx : Hid (x = n)) (h1 : 1 ≤ n) (h2 : n ≤ 256) (w : World) :
    Calls Tryd.prog 39 #[.int .i64 x] w fun e w' => ∃ P p B G, e = .returned (.tuple #[.pointer (some ⟨P, 0, none⟩), .nilIface]) ∧ MkAt w' w.heap.size P p B G n n (fun _ => false) (fun _ => 0) (fun _ => false) (fun _ _ _ => 0) ∧ Below w.heap.size w w' :=
  (mknew_ok x n hx h1 h2 w).mono fun e w' ⟨P, p, B, G, he, hP, hb⟩ => ⟨P, p, B, G, he, hP.congrW (fun i j _ _ => by
    unfold zk mkW kval
    by_cases h0 : j = 0
    · rw [if_pos h0, if_pos h0]
    · rw [if_neg h0, if_neg h0]
      by_cases h5 : j % 5 = 0
      · rw [if_pos h5, if_pos (by omega)]
      · rw [if_neg h5, if_neg (by omega)]) (by decide), hb⟩
theorem mkmake_is {base P p B G n c : Nat} {th : Nat → Bool} {vr_ : Nat → Int} {sl : Nat → Bool} {ky : Nat → Nat → Nat → Int} (id : Int) (j : Nat) (hid : Hid (id = j)) (hj : j < n) (hyes : Hid (freeB th vr_ j = true)) (hno : Hid (∀ i, i < j → freeB th vr_ i = false)) (v : Int) (hv : Hid (vr_ j = v)) (w : World) (h : MkAt w base P p B G n c th vr_ sl ky) :
    Calls Tryd.prog 44 #[.pointer (some ⟨P, 0, none⟩)] w fun e w' => e = .returned (.tuple #[.int .i64 id, .int .i64 v, .nilIface]) ∧ MkAt w' base P p B G n c (upd th j true) vr_ (upd sl j false) (upd ky j (fun _ _ => 0)) ∧ PBelow w w' B G :=
  (mkmake_ok id j hid hj hyes hno v hv w h.pl).mono fun e w' ⟨h1, h2, h3⟩ => ⟨h1, PlAt.congrW h2 (fun i b _ hb => mkW_new sl ky j i b hb) (by decide), h3⟩
theorem mkmake_full {base P p B G n c : Nat} {th : Nat → Bool} {vr_ : Nat → Int} {sl : Nat → Bool} {ky : Nat → Nat → Nat → Int} (w : World) (h : MkAt w base P p B G n c th vr_ sl ky) (hno : Hid (∀ i, i < n → freeB th vr_ i = false)) (z : Addr) (hE : w.cell? ⟨3, 0, none⟩ = some (eV z)) (hl : 3 < w.heap.size) :
    Calls Tryd.prog 44 #[.pointer (some ⟨P, 0, none⟩)] w fun e w' => e = .returned (.tuple #[.int .i64 0, .int .i64 0, eV z]) ∧ Below w.heap.size w w' := by
  have H := Lib.hid h
  have HE := Lib.hid hE
  have f0 := h.pl.f0
  clear h hE
  go_enter Tryd.func44, Tryd.ntmps44
  go_wp2_with (first
    | (go_at_call 58; (with_reducible refine (atake_full _ H.out.ar hno _ HE.out hl).mono ?_); rintro e w1 ⟨rfl, hb⟩; have HB := Lib.hid hb; clear hb))
  go_ret3
  exact ⟨rfl, HB.out⟩
theorem mkmay_ok {base P p B G n c : Nat} {th : Nat → Bool} {vr_ : Nat → Int} {sl : Nat → Bool} {ky : Nat → Nat → Nat → Int} (k : Nat) (hk : k < n) (ht : Hid (th k = true)) (hs : Hid (sl k = false)) (w : World) (h : MkAt w base P p B G n c th vr_ sl ky) :
    Calls Tryd.prog 73 #[.pointer (some ⟨P, 0, none⟩), .int .i64 k] w fun e w' => e = .returned .nilIface ∧ w = w' := by
  have H := Lib.hid h
  have f0 := h.pl.f0
  have f1 := h.pl.f1
  have c0 := h.s0 k hk
  rw [hs.out] at c0
  have k0 : (0 : Int) ≤ k := by omega
  have k1 : (k : Int) < n := by omega
  clear h
  go_enter Tryd.func73, Tryd.ntmps73
  go_wp2_with (first
    | (go_at_call 21; (with_reducible refine (athere_in k hk true ht _ H.out.ar).mono ?_); rintro e w1 ⟨rfl, rfl⟩))
  go_ret
  exact ⟨rfl, rfl⟩
theorem mkmay_state {base P p B G n c : Nat} {th : Nat → Bool} {vr_ : Nat → Int} {sl : Nat → Bool} {ky : Nat → Nat → Nat → Int} (k : Nat) (hk : k < n) (ht : Hid (th k = true)) (hs : Hid (sl k = true)) (z : Addr) (w : World) (h : MkAt w base P p B G n c th vr_ sl ky) (hE : w.cell? ⟨5, 0, none⟩ = some (eV z)) :
    Calls Tryd.prog 73 #[.pointer (some ⟨P, 0, none⟩), .int .i64 k] w fun e w' => e = .returned (eV z) ∧ w = w' := by
  have H := Lib.hid h
  have f0 := h.pl.f0
  have f1 := h.pl.f1
  have c0 := h.s0 k hk
  rw [hs.out] at c0
  have k0 : (0 : Int) ≤ k := by omega
  have k1 : (k : Int) < n := by omega
  clear h
  go_enter Tryd.func73, Tryd.ntmps73
  go_wp2_with (first
    | (go_at_call 21; (with_reducible refine (athere_in k hk true ht _ H.out.ar).mono ?_); rintro e w1 ⟨rfl, rfl⟩))
  go_ret
  exact ⟨rfl, rfl⟩
theorem mkmay_none {base P p B G n c : Nat} {th : Nat → Bool} {vr_ : Nat → Int} {sl : Nat → Bool} {ky : Nat → Nat → Nat → Int} (id : Int) (ht : Hid (thereB n th id = false)) (z : Addr) (w : World) (h : MkAt w base P p B G n c th vr_ sl ky) (hE : w.cell? ⟨0, 0, none⟩ = some (eV z)) :
    Calls Tryd.prog 73 #[.pointer (some ⟨P, 0, none⟩), .int .i64 id] w fun e w' => e = .returned (eV z) ∧ w = w' := by
  have H := Lib.hid h
  have f0 := h.pl.f0
  clear h
  go_enter Tryd.func73, Tryd.ntmps73
  go_wp2_with (first
    | (go_at_call 21; (with_reducible refine (athere_is id false ht _ H.out.ar).mono ?_); rintro e w1 ⟨rfl, rfl⟩))
  go_ret
  exact ⟨rfl, rfl⟩
theorem mkseal_ok {base P p B G n c : Nat} {th : Nat → Bool} {vr_ : Nat → Int} {sl : Nat → Bool} {ky : Nat → Nat → Nat → Int} (k : Nat) (hk : k < n) (ht : Hid (th k = true)) (hs : Hid (sl k = false)) (w : World) (h : MkAt w base P p B G n c th vr_ sl ky) :
    Calls Tryd.prog 46 #[.pointer (some ⟨P, 0, none⟩), .int .i64 k] w fun e w' => e = .returned .nilIface ∧ MkAt w' base P p B G n c th vr_ (upd sl k true) ky ∧ PBelow w w' B G := by
  have H := Lib.hid h
  have f1 := h.pl.f1
  have c0 := h.s0 k hk
  have z0 := h.pl.frz (k * 31)
  have hs2 := h.pl.cells k 0 hk [.bool true] (by decide)
  rw [Nat.add_zero] at hs2
  have HS2 := Lib.hid hs2
  have k0 : (0 : Int) ≤ k := by omega
  have k1 : (k : Int) < n := by omega
  clear h hs2
  go_enter Tryd.func46, Tryd.ntmps46
  go_wp2_with (first
    | (go_at_call 73; (with_reducible refine (mkmay_ok k hk ht hs _ H.out).mono ?_); rintro e w1 ⟨rfl, rfl⟩))
  go_ret
  exact ⟨rfl, PlAt.congrW HS2.out.1 (fun i b _ _ => mkW_seal sl ky k true i b) (by decide), PBelow.of HS2.out.2 (.inr rfl)⟩
theorem mkseal_no {P : Nat} (id : Int) (z : Addr) (w : World) (HM : Hid (Calls Tryd.prog 73 #[.pointer (some ⟨P, 0, none⟩), .int .i64 id] w fun e w' => e = .returned (eV z) ∧ w = w')) :
    Calls Tryd.prog 46 #[.pointer (some ⟨P, 0, none⟩), .int .i64 id] w fun e w' => e = .returned (eV z) ∧ w = w' := by
  go_enter Tryd.func46, Tryd.ntmps46
  go_wp2_with (first
    | (go_at_call 73; (with_reducible refine HM.out.mono ?_); rintro e w1 ⟨rfl, rfl⟩))
  go_ret
  exact ⟨rfl, rfl⟩
theorem mksealed_in {base P p B G n c : Nat} {th : Nat → Bool} {vr_ : Nat → Int} {sl : Nat → Bool} {ky : Nat → Nat → Nat → Int} (k : Nat) (hk : k < n) (ht : Hid (th k = true)) (t : Bool) (hs : Hid (sl k = t)) (w : World) (h : MkAt w base P p B G n c th vr_ sl ky) :
    Calls Tryd.prog 49 #[.pointer (some ⟨P, 0, none⟩), .int .i64 k] w fun e w' => e = .returned (.bool t) ∧ w = w' := by
  have H := Lib.hid h
  have f0 := h.pl.f0
  have f1 := h.pl.f1
  have c0 := h.s0 k hk
  rw [hs.out] at c0
  have k0 : (0 : Int) ≤ k := by omega
  have k1 : (k : Int) < n := by omega
  clear h
  go_enter Tryd.func49, Tryd.ntmps49
  go_wp2_with (first
    | (go_at_call 21; (with_reducible refine (athere_in k hk true ht _ H.out.ar).mono ?_); rintro e w1 ⟨rfl, rfl⟩))
  go_ret
  exact ⟨rfl, rfl⟩
theorem mkparts_in {base P p B G n c : Nat} {th : Nat → Bool} {vr_ : Nat → Int} {sl : Nat → Bool} {ky : Nat → Nat → Nat → Int} (k : Nat) (hk : k < n) (ht : Hid (th k = true)) (w : World) (h : MkAt w base P p B G n c th vr_ sl ky) :
    Calls Tryd.prog 50 #[.pointer (some ⟨P, 0, none⟩), .int .i64 k] w fun e w' => ∃ g' c', e = .returned (.slice (some ⟨g', 0, none⟩) 6 c') ∧ w'.ownsRow w.heap.size 32 5 (.slice (some ⟨g', 0, none⟩) 6 c') 6 (kcs (ky k) 6) ∧ Below w.heap.size w w' := by
  have H := Lib.hid h
  have f0 := h.pl.f0
  have f1 := h.pl.f1
  have k0 : (0 : Int) ≤ k := by omega
  have k1 : (k : Int) < n := by omega
  have HC : Hid (∀ u ∈ kcs (ky k) 6, u.oneCell' = true) := Lib.hid (fun u hu => by
    obtain ⟨x, hx, rfl⟩ := List.mem_map.1 hu
    exact kval_one _ _)
  have HX : Hid (∀ j u, (kcs (ky k) 6)[j]? = some u → w.cell? (Addr.add ⟨G, k * 31 + 1, none⟩ j) = some u) := Lib.hid (fun j u hj => by
    have hlt : j < 30 := by
      rcases Nat.lt_or_ge j 30 with h' | h'
      · exact h'
      · rw [List.getElem?_eq_none (by rw [kcs_len]; omega)] at hj; cases hj
    have e : j = j / 5 * 5 + j % 5 := by omega
    have h1 := kcs_at (ky k) 6 (j / 5) (j % 5) (by omega) (Nat.mod_lt _ (by decide))
    rw [← e, hj] at h1
    have h2 := H.out.pl.cell k (1 + j / 5 * 5 + j % 5) hk (by omega)
    rw [mkW_key _ _ _ _ _ (Nat.mod_lt _ (by decide)), show 1 + j / 5 * 5 + j % 5 = 1 + j by omega, ← Nat.add_assoc] at h2
    rw [Addr.add_mid, h2, h1])
  clear h
  go_enter Tryd.func50, Tryd.ntmps50
  go_wp2_with (first
    | (go_at_call 21; (with_reducible refine (athere_in k hk true ht _ H.out.ar).mono ?_); rintro e w1 ⟨rfl, rfl⟩)
    | (go_at_call 55; (with_reducible refine (kclone_is G (k * 31 + 1) 6 6 (kcs (ky k) 6) (Lib.hid (kcs_len _ _)) (by decide) (by decide) _ HX.out HC H.out.pl.gl.2).mono ?_); rintro e w2 ⟨g', c', rfl, hr, hb⟩; have HR := Lib.hid hr; have HB := Lib.hid hb; clear hr hb))
  go_ret
  exact ⟨g', c', rfl, HR.out, HB.out⟩
theorem mkparts_out {base P p B G n c : Nat} {th : Nat → Bool} {vr_ : Nat → Int} {sl : Nat → Bool} {ky : Nat → Nat → Nat → Int} (id : Int) (ht : Hid (thereB n th id = false)) (w : World) (h : MkAt w base P p B G n c th vr_ sl ky) :
    Calls Tryd.prog 50 #[.pointer (some ⟨P, 0, none⟩), .int .i64 id] w fun e w' => e = .returned (.slice none 0 0) ∧ w = w' := by
  have H := Lib.hid h
  have f0 := h.pl.f0
  clear h
  go_enter Tryd.func50, Tryd.ntmps50
  go_wp2_with (first
    | (go_at_call 21; (with_reducible refine (athere_is id false ht _ H.out.ar).mono ?_); rintro e w1 ⟨rfl, rfl⟩))
  go_ret
  exact ⟨rfl, rfl⟩
set_option maxRecDepth 100000 in
set_option maxHeartbeats 1000000 in
theorem mkinstall_ok {base P p B G n c : Nat} {th : Nat → Bool} {vr_ : Nat → Int} {sl : Nat → Bool} {ky : Nat → Nat → Nat → Int} (vs vr : Value) (k a : Nat) (hk : k < n) (ha : a < 6) (ht : Hid (th k = true)) (hs : Hid (sl k = false)) (y0 y1 y2 y3 y4 : Int) (hy : Hid (rightB y0 y1 y2 y3 y4 = true)) (w : World) (hE : ErrsAt vs vr w) (h : MkAt w base P p B G n c th vr_ sl ky) :
    Calls Tryd.prog 45 #[.pointer (some ⟨P, 0, none⟩), .int .i64 k, .int .i64 a, (Value.agg #[.int .i64 y0, .int .i64 y1, .int .i64 y2, .int .i64 y3, .int .u32 y4])] w fun e w' => e = .returned .nilIface ∧ MkAt w' base P p B G n c th vr_ sl (updP ky k a y0 y1 y2 y3 y4) ∧ PBelow w w' B G := by
  have H := Lib.hid h
  have HE := Lib.hid hE
  have a0 : (0 : Int) ≤ a := by omega
  have a1 : (a : Int) < 6 := by omega
  have k0 : (0 : Int) ≤ k := by omega
  have k1 : (k : Int) < n := by omega
  clear h hE
  go_enter Tryd.func45, Tryd.ntmps45
  go_wp2_with (first
    | (go_at_call 73; (with_reducible refine (mkmay_ok k hk ht hs _ (H.out.below ((Below.refl _ _).alloc (Nat.le_refl _) _))).mono ?_); rintro e w1 ⟨rfl, rfl⟩)
    | (go_at_call 62; (with_reducible refine (nvalid_ok y0 y1 y2 y3 y4 hy vs vr _ (HE.out.below ((Below.refl _ _).alloc (Nat.le_refl _) _))).mono ?_); rintro e w1 ⟨rfl, hb⟩; have HB := Lib.hid hb; clear hb))
  have HD : Hid (Below w.heap.size w w1) := Lib.hid (((Below.refl _ _).alloc (Nat.le_refl _) _ : Below w.heap.size w _).trans (HB.out.mono (by simp)))
  have H1 := Lib.hid (H.out.below HD.out)
  have hs2 := H1.out.pl.cells k (1 + a * 5) hk (k5 y0 y1 y2 y3 y4) (by simp [k5]; omega)
  rw [← Nat.add_assoc] at hs2
  have HS2 := Lib.hid hs2
  have f1 := H1.out.pl.f1
  have c0 := H1.out.pl.cell k (1 + a * 5) hk (by omega)
  have c1 := H1.out.pl.cell k (1 + a * 5 + 1) hk (by omega)
  have c2 := H1.out.pl.cell k (1 + a * 5 + 2) hk (by omega)
  have c3 := H1.out.pl.cell k (1 + a * 5 + 3) hk (by omega)
  have c4 := H1.out.pl.cell k (1 + a * 5 + 4) hk (by omega)
  rw [← Nat.add_assoc] at c0
  rw [← Nat.add_assoc, ← Nat.add_assoc] at c1 c2 c3 c4
  have z0 := H1.out.pl.frz (k * 31 + 1 + a * 5)
  have z1 := H1.out.pl.frz (k * 31 + 1 + a * 5 + 1)
  have z2 := H1.out.pl.frz (k * 31 + 1 + a * 5 + 2)
  have z3 := H1.out.pl.frz (k * 31 + 1 + a * 5 + 3)
  have z4 := H1.out.pl.frz (k * 31 + 1 + a * 5 + 4)
  have b0 : w1.cell? ⟨w.heap.size, 0, none⟩ = some (.int .i64 y0) := (HB.out.cell (p := ⟨w.heap.size, 0, none⟩) (by simp)).trans (by simp)
  have b1 : w1.cell? ⟨w.heap.size, 1, none⟩ = some (.int .i64 y1) := (HB.out.cell (p := ⟨w.heap.size, 1, none⟩) (by simp)).trans (by simp)
  have b2 : w1.cell? ⟨w.heap.size, 2, none⟩ = some (.int .i64 y2) := (HB.out.cell (p := ⟨w.heap.size, 2, none⟩) (by simp)).trans (by simp)
  have b3 : w1.cell? ⟨w.heap.size, 3, none⟩ = some (.int .i64 y3) := (HB.out.cell (p := ⟨w.heap.size, 3, none⟩) (by simp)).trans (by simp)
  have b4 : w1.cell? ⟨w.heap.size, 4, none⟩ = some (.int .u32 y4) := (HB.out.cell (p := ⟨w.heap.size, 4, none⟩) (by simp)).trans (by simp)
  clear HB hs2
  go_still_tail 10, (by kernel_rfl)
  change wpList _ _ _ _ _ w1.drew
  go_wp2_with fail
  go_ret
  exact ⟨rfl, (PlAt.congrW HS2.out.1 (fun i b _ _ => mkW_part sl ky k a y0 y1 y2 y3 y4 i b) (by decide)).below ((Below.refl _ _).drew), ((PBelow.of_below HD.out).trans (PBelow.of HS2.out.2 (.inr rfl))).trans (PBelow.of_below ((Below.refl _ _).drew))⟩
theorem mkinstall_no {P : Nat} (id a : Int) (y0 y1 y2 y3 y4 : Int) (z : Addr) (w : World) (HM : Hid (∀ o, Calls Tryd.prog 73 #[.pointer (some ⟨P, 0, none⟩), .int .i64 id] (w.alloc o) fun e w' => e = .returned (eV z) ∧ (w.alloc o) = w')) :
    Calls Tryd.prog 45 #[.pointer (some ⟨P, 0, none⟩), .int .i64 id, .int .i64 a, (Value.agg #[.int .i64 y0, .int .i64 y1, .int .i64 y2, .int .i64 y3, .int .u32 y4])] w fun e w' => e = .returned (eV z) ∧ Below w.heap.size w w' := by
  go_enter Tryd.func45, Tryd.ntmps45
  go_wp2_with (first
    | (go_at_call 73; (with_reducible refine (HM.out _).mono ?_); rintro e w1 ⟨rfl, rfl⟩))
  go_ret
  exact ⟨rfl, (Below.refl _ _).alloc (Nat.le_refl _) _⟩
theorem mkinstall_range {base P p B G n c : Nat} {th : Nat → Bool} {vr_ : Nat → Int} {sl : Nat → Bool} {ky : Nat → Nat → Nat → Int} (k : Nat) (a : Int) (hk : k < n) (ha : ¬ (0 ≤ a ∧ a < 6)) (ht : Hid (th k = true)) (hs : Hid (sl k = false)) (y0 y1 y2 y3 y4 : Int) (z : Addr) (w : World) (hE : w.cell? ⟨1, 0, none⟩ = some (eV z)) (hl : 1 < w.heap.size) (h : MkAt w base P p B G n c th vr_ sl ky) :
    Calls Tryd.prog 45 #[.pointer (some ⟨P, 0, none⟩), .int .i64 k, .int .i64 a, (Value.agg #[.int .i64 y0, .int .i64 y1, .int .i64 y2, .int .i64 y3, .int .u32 y4])] w fun e w' => e = .returned (eV z) ∧ Below w.heap.size w w' := by
  have H := Lib.hid h
  have e1 : ∀ o, (w.alloc o).cell? ⟨1, 0, none⟩ = some (eV z) := fun o => (World.cell?_alloc_lt w o ⟨1, 0, none⟩ hl).trans hE
  clear h hE
  by_cases h0 : a < 0
  · have d0 : decide (a < 0) = true := decide_eq_true h0
    clear ha h0
    go_enter Tryd.func45, Tryd.ntmps45
    go_wp2_with (first
      | (go_at_call 73; (with_reducible refine (mkmay_ok k hk ht hs _ (H.out.below ((Below.refl _ _).alloc (Nat.le_refl _) _))).mono ?_); rintro e w1 ⟨rfl, rfl⟩))
    go_ret
    exact ⟨rfl, (Below.refl _ _).alloc (Nat.le_refl _) _⟩
  · have d0 : decide (a < 0) = false := decide_eq_false h0
    have d1 : decide (6 ≤ a) = true := decide_eq_true (by omega)
    clear ha h0
    go_enter Tryd.func45, Tryd.ntmps45
    go_wp2_with (first
      | (go_at_call 73; (with_reducible refine (mkmay_ok k hk ht hs _ (H.out.below ((Below.refl _ _).alloc (Nat.le_refl _) _))).mono ?_); rintro e w1 ⟨rfl, rfl⟩))
    go_ret
    exact ⟨rfl, (Below.refl _ _).alloc (Nat.le_refl _) _⟩
end Go.Proofs.YtahhnfhnlffmpaaDoor
namespace Go.Proofs.YtahhnfhnlffmpaaDoor
open Go.ChangeShapes Go.WideShapes Go.ChangeAt Go.RowKit Go.Maps
set_option linter.unusedVariables false
theorem kcs_row (kk : Nat → Nat → Int) (m : Nat) : kcs kk m = keyRow kk (List.range m) := by
  induction m with
  | zero => rfl
  | succ m ih => rw [kcs_one, ih, List.range_succ, keyRow_snoc]; rfl
/-- All the first m factories. -/
def MD (m : Nat) (vr : Nat → Int) (sl : Nat → Bool) (ky : Nat → Nat → Nat → Int) (pa : Nat → Option Addr) (cp : Nat → Nat) : FD := ⟨m, fun i => (i : Int), vr, sl, pa, fun _ => 6, cp, ky⟩
theorem grown_cell (v : World) (b j : Nat) (u : Value) : v.grownBy (v.setCell ⟨b, j, none⟩ u) (some b) := ⟨rfl, rfl, rfl, by simp, fun k hk hne => Below.heap_setCell _ _ _ _ (fun e => hne (by simpa using e))⟩
theorem row_past {w : World} {B B' E s n g c b : Nat} {xs : List Value} (h : w.ownsRow B E s (.slice (some ⟨g, 0, none⟩) n c) n xs) (hb : b < B) (hB : B' ≤ B) (v0 v1 v2 v3 : Value) :
    ((((w.setCell ⟨b, 0, none⟩ v0).setCell ⟨b, 1, none⟩ v1).setCell ⟨b, 2, none⟩ v2).setCell ⟨b, 3, none⟩ v3).ownsRow B' E s (.slice (some ⟨g, 0, none⟩) n c) n xs := by
  have hl := (h.lt g rfl).1
  have ne : (Value.slice (some ⟨g, 0, none⟩) n c).ownBlock = none ∨ (Value.slice (some ⟨g, 0, none⟩) n c).ownBlock ≠ some b := .inr (by simp [Value.ownBlock]; omega)
  have h4 := (((h.kept (grown_cell w b 0 v0) ne).kept (grown_cell _ b 1 v1) ne).kept (grown_cell _ b 2 v2) ne).kept (grown_cell _ b 3 v3) ne
  refine ⟨h4.1, ?_⟩
  rcases h4.2 with hn | ⟨g1, cap, cur, e, hg, rest⟩
  · exact .inl hn
  · exact .inr ⟨g1, cap, cur, e, Nat.le_trans hB hg, rest⟩
theorem row_base {w : World} {B B' E s n : Nat} {v : Value} {xs : List Value} (h : w.ownsRow B E s v n xs) (hB : B' ≤ B) : w.ownsRow B' E s v n xs := by
  refine ⟨h.1, ?_⟩
  rcases h.2 with hn | ⟨g1, cap, cur, e, hg, rest⟩
  · exact .inl hn
  · exact .inr ⟨g1, cap, cur, e, Nat.le_trans hB hg, rest⟩
set_option maxRecDepth 100000 in
theorem mktold_is {base P p B G n c : Nat} {th : Nat → Bool} {vr_ : Nat → Int} {sl : Nat → Bool} {ky : Nat → Nat → Nat → Int} (k : Nat) (hk : k < n) (ht : Hid (th k = true)) (t : Bool) (hs : Hid (sl k = t)) (v : Int) (hv : Hid (vr_ k = v)) (w : World) (h : MkAt w base P p B G n c th vr_ sl ky) :
    Calls Tryd.prog 72 #[.pointer (some ⟨P, 0, none⟩), .int .i64 k] w fun e w' => ∃ g' c', e = .returned (.agg #[.int .i64 k, .int .i64 v, .bool t, .slice (some ⟨g', 0, none⟩) 6 c']) ∧ w'.ownsRow w.heap.size 32 5 (.slice (some ⟨g', 0, none⟩) 6 c') 6 (keyRow (ky k) (List.range 6)) ∧ Below w.heap.size w w' := by
  have H := Lib.hid h
  have HA : Hid (∀ o, MkAt (w.alloc o) base P p B G n c th vr_ sl ky) := Lib.hid fun o => h.below ((Below.refl _ _).alloc (Nat.le_refl _) _)
  have f0 : ∀ o, (w.alloc o).cell? ⟨P, 0, none⟩ = some (.pointer (some ⟨p, 0, none⟩)) := fun o => (HA.out o).pl.f0
  clear h
  go_enter Tryd.func72, Tryd.ntmps72
  go_wp2_with (first
    | (go_at_call 37; (with_reducible refine (aver_in k hk v hv _ (HA.out _).ar).mono ?_); rintro e w1 ⟨rfl, rfl⟩)
    | (go_at_call 49; (with_reducible refine (mksealed_in k hk ht t hs _ (HA.out _)).mono ?_); rintro e w1 ⟨rfl, rfl⟩)
    | (go_at_call 50; (with_reducible refine (mkparts_in k hk ht _ (HA.out _)).mono ?_); rintro e w2 ⟨g', c', rfl, hr, hb⟩; have HR := Lib.hid hr; have HB := Lib.hid (Below.trans ((Below.refl _ _).alloc (Nat.le_refl _) _) (hb.mono (by simp))); obtain ⟨hc, hf⟩ := bcell hb; clear hb hr))
  refine bodyPost_ret (v := .agg #[.int .i64 (k : Int), .int .i64 v, .bool t, .slice (some ⟨g', 0, none⟩) 6 c']) (by simp [results, Tryd.results72, go_sem, hc]) rfl ⟨g', c', rfl, ?_, ?_⟩
  · have hr := HR.out
    rw [kcs_row] at hr
    exact row_past hr (by simp) (by simp) _ _ _ _
  · exact (((HB.out.setCell (Nat.le_refl _) _).setCell (Nat.le_refl _) _).setCell (Nat.le_refl _) _).setCell (Nat.le_refl _) _
theorem hinfoFd : (Tryd.prog.info? 110).map (fun i => (i.zero, i.size, i.bytes)) = some (some (.agg #[.int .i64 0, .int .i64 0, .bool false, .slice none 0 0]), 4, 48) := by kernel_rfl
theorem four_one' (x0 x1 : Int) (b : Bool) (p : Option Addr) (n c : Nat) : ∀ u ∈ [Value.int .i64 x0, .int .i64 x1, .bool b, .slice p n c], u.oneCell' = true := by
  intro u hu
  simp at hu
  rcases hu with rfl | rfl | rfl | rfl <;> rfl
theorem four_at' {l : List Value} {a b c d : Value} (hl : l = [a, b, c, d]) (w : World) (T : TypeId) : ∀ j u, l[j]? = some u → (w.alloc (.cells #[a, b, c, d] T (0, 0))).cell? (Addr.add ⟨w.heap.size, 0, none⟩ j) = some u := by
  subst hl
  intro j u hj
  rw [Addr.add_lit, Nat.zero_add]
  simpa using hj
set_option maxRecDepth 100000 in
set_option maxHeartbeats 4000000 in
theorem mkall_is {base P p B G n c : Nat} {th : Nat → Bool} {vr_ : Nat → Int} {sl : Nat → Bool} {ky : Nat → Nat → Nat → Int} (m : Nat) (hm : m ≤ n) (hn : n ≤ 256) (ht : Hid (∀ i, i < n → th i = decide (i < m))) (w : World) (h : MkAt w base P p B G n c th vr_ sl ky) :
    Calls Tryd.prog 42 #[.pointer (some ⟨P, 0, none⟩)] w fun e w' => ∃ v pa cp, e = .returned v ∧ FlAt w' w.heap.size v (MD m vr_ sl ky pa cp) ∧ Below w.heap.size w w' := by
  have H := Lib.hid h
  have f0 := h.pl.f0
  have f1 := h.pl.f1
  obtain ⟨jf, hi1, hi2, hi3, hi4⟩ := info_parts hinfoFd
  have HIF := Lib.hid (⟨hi1, hi2, hi3, hi4⟩ : Tryd.prog.info? 110 = some jf ∧ jf.zero = some (.agg #[.int .i64 0, .int .i64 0, .bool false, .slice none 0 0]) ∧ jf.size = 4 ∧ jf.bytes = 48)
  clear h hi1 hi2 hi3 hi4
  go_enter Tryd.func42, Tryd.ntmps42
  go_wp2_with fail
  clear f0 f1
  go_loopw [10, 3] (fun z v wr => ∃ (q r : Nat) (pa : Nat → Option Addr) (cp : Nat → Nat), q ≤ n ∧ r ≤ q ∧ (q ≤ m → r = q) ∧ (m ≤ q → r = m) ∧ z = .int .i64 q ∧ FlAt wr w.heap.size v (MD r vr_ sl ky pa cp) ∧ Below w.heap.size w wr) (fun z _ _ => n - (intOf z).toNat)
  case atStart => exact ⟨0, 0, fun _ => none, fun _ => 0, by omega, by omega, fun _ => rfl, fun h => by omega, rfl, FlAt.start _ _ _ rfl, Below.refl _ _⟩
  case round =>
    obtain ⟨q, r, pa, cp, hq, hr, hr1, hr2, rfl, hfl, hb⟩ := hrel
    have HFl := Lib.hid hfl
    have HB := Lib.hid hb
    have HR12 := Lib.hid (⟨hr1, hr2⟩ : (q ≤ m → r = q) ∧ (m ≤ q → r = m))
    clear hfl hb hr1 hr2
    by_cases hlt : q < n
    · have q0 : (0 : Int) ≤ q := by omega
      have q1 : (q : Int) < n := by omega
      have Hr := Lib.hid (H.out.below HB.out)
      have f0 := Hr.out.pl.f0
      by_cases hqm : q < m
      · obtain rfl : r = q := HR12.out.1 (by omega)
        have HT : Hid (th r = true) := Lib.hid (by rw [ht.out r hlt]; exact decide_eq_true hqm)
        obtain ⟨xs, Hxs⟩ : ∃ x, Hid (sl r = x) := ⟨_, Lib.hid rfl⟩
        obtain ⟨xv, Hxv⟩ : ∃ x, Hid (vr_ r = x) := ⟨_, Lib.hid rfl⟩
        have H6 : Hid (r + 1 ≤ maxLen ∧ (r + 1) * 48 ≤ 140737488355328) := Lib.hid ⟨by unfold maxLen; omega, by omega⟩
        go_wp2_with (first
          | (go_at_call 21; (with_reducible refine (athere_in r hlt true HT _ Hr.out.ar).mono ?_); rintro e w1 ⟨rfl, rfl⟩)
          | (go_at_call 72; (with_reducible refine (mktold_is r hlt HT xs Hxs xv Hxv _ Hr.out).mono ?_); rintro e w2 ⟨g', c', rfl, hrow, hb⟩; have HRow := Lib.hid hrow; have HB2 := Lib.hid hb; have HBs : Hid (∀ o, w.heap.size ≤ (w2.alloc o).heap.size) := Lib.hid (fun o => by have := HB.out.size; have := hb.size; simp; omega); clear hrow hb f0)
          | (at_builtin; refine wpList_append_own_at _ rfl _ _ 90 rfl w.heap.size 110 jf (.agg #[.int .i64 0, .int .i64 0, .bool false, .slice none 0 0]) 4 48 Tryd.underlying90 HIF.out.1 HIF.out.2.1 HIF.out.2.2.1 HIF.out.2.2.2 rfl (by decide) u3 _ _ rfl ((HFl.out.below HB2.out).row.alloc _) ⟨w2.heap.size, 0, none⟩ 1 1 [.int .i64 (r : Int), .int .i64 xv, .bool xs, .slice (some ⟨g', 0, none⟩) 6 c'] rfl rfl (four_at' rfl _ _) (four_one' _ _ _ _ _ _) H6.out.1 H6.out.2 (HBs.out _) ?_; intro v' w9 hown hgrow hnil hloc; have HOW := Lib.hid hown; have HGR := Lib.hid hgrow; have HLOC := Lib.hid hloc; clear hown hgrow hnil hloc))
        go_roundw
        case rel =>
          have hpart : ∀ W : World, W.ownsRow w.heap.size 32 5 (.slice (some ⟨g', 0, none⟩) 6 c') 6 (keyRow (ky r) (List.range 6)) → W.ownsRow w.heap.size 32 5 ((MD (r + 1) vr_ sl ky (upd pa r (some ⟨g', 0, none⟩)) (upd cp r c')).part r) 6 (keyRow (ky r) (List.range 6)) := fun W h => by
            show W.ownsRow w.heap.size 32 5 (.slice (upd pa r (some ⟨g', 0, none⟩) r) 6 (upd cp r c' r)) 6 (keyRow (ky r) (List.range 6))
            rw [upd_at, upd_at]
            exact h
          refine ⟨r + 1, r + 1, upd pa r (some ⟨g', 0, none⟩), upd cp r c', by omega, by omega, fun _ => rfl, fun h => by omega, by go_num, ?_, ?_⟩
          · refine FlAt.push (D := MD r vr_ sl ky pa cp) (D' := MD (r + 1) vr_ sl ky (upd pa r (some ⟨g', 0, none⟩)) (upd cp r c')) HFl.out (HB2.out.alloc HB2.out.size _) rfl (fun i hi => ⟨rfl, rfl, rfl, upd_other _ _ _ _ (by have : i < r := hi; omega), rfl, upd_other _ _ _ _ (by have : i < r := hi; omega), rfl⟩) ?_ ?_ ?_ HGR.out ?_
            · exact hpart _ ((row_base HRow.out HB.out.size).alloc _)
            · intro g hg
              have e : (MD (r + 1) vr_ sl ky (upd pa r (some ⟨g', 0, none⟩)) (upd cp r c')).part r = .slice (some ⟨g', 0, none⟩) 6 c' := by
                show Value.slice (upd pa r (some ⟨g', 0, none⟩) r) 6 (upd cp r c' r) = _
                rw [upd_at, upd_at]
              have hg' : ((MD (r + 1) vr_ sl ky (upd pa r (some ⟨g', 0, none⟩)) (upd cp r c')).part r).ownBlock = some g := hg
              rw [e] at hg'
              exact (HRow.out.lt g hg').1
            · have h := HOW.out
              show w9.ownsRow w.heap.size 110 4 v' (r + 1) (facRow (MD r vr_ sl ky pa cp) r ++ [.int .i64 (r : Int), .int .i64 (vr_ r), .bool (sl r), .slice (upd pa r (some ⟨g', 0, none⟩) r) 6 (upd cp r c' r)])
              rw [upd_at, upd_at, Hxs.out, Hxv.out]
              exact h
            · rcases HLOC.out with h | h
              · exact .inl h
              · exact .inr ⟨_, h, Nat.le_refl _⟩
          · exact ((HB.out.trans (HB2.out.mono HB.out.size)).alloc (Nat.le_trans HB.out.size HB2.out.size) _).grown HGR.out (HBs.out _) (fun g hg => (HFl.out.row.lt g hg).1)
        case measure => simp [intOf]; omega
      · obtain rfl : r = m := HR12.out.2 (by omega)
        have HT : Hid (th q = false) := Lib.hid (by rw [ht.out q hlt]; exact decide_eq_false hqm)
        go_wp2_with (first
          | (go_at_call 21; (with_reducible refine (athere_in q hlt false HT _ Hr.out.ar).mono ?_); rintro e w1 ⟨rfl, rfl⟩))
        go_roundw
        case rel => exact ⟨q + 1, r, pa, cp, by omega, by omega, fun h => by omega, fun _ => rfl, by go_num, HFl.out, HB.out⟩
        case measure => simp [intOf]; omega
    · obtain rfl : q = n := by omega
      obtain rfl : r = m := HR12.out.2 (by omega)
      have hqq : decide (q < q) = false := by simp
      go_wp2_with fail
      go_ret
      exact ⟨_, rfl, ⟨pa, cp, HFl.out⟩, HB.out⟩
set_option maxRecDepth 100000 in
set_option maxHeartbeats 4000000 in
theorem mkholes_is {base P p B G n c : Nat} {th : Nat → Bool} {vr_ : Nat → Int} {sl : Nat → Bool} {ky : Nat → Nat → Nat → Int} (k m : Nat) (hk : k < m) (hm : m ≤ n) (hn : n ≤ 256) (ht : Hid (∀ i, i < n → th i = decide (i < m))) (hwf : Hid (∀ i, i < m → wfH (vr_ i) ∧ ∀ j, j < 6 → wfH (ky i j 1) ∧ wfH (ky i j 2))) (sn : Nat → Nat → Bool) (R : Nat → Bool) (hR : Hid (∀ pa cp, RIs (MD m vr_ sl ky pa cp) sn R)) (hS : Hid (∀ pa cp, SnOk (MD m vr_ sl ky pa cp) sn))
    (pk : Nat → Bool) (hp : Hid (∀ pa cp j, j < 6 → holeB (MD m vr_ sl ky pa cp) R (sn k j) (ky k j 0) (ky k j 1) (ky k j 2) = pk j)) (w : World) (h : MkAt w base P p B G n c th vr_ sl ky) :
    Calls Tryd.prog 51 #[.pointer (some ⟨P, 0, none⟩), .int .i64 k] w fun e w' => ∃ v, e = .returned v ∧ KRow w' w.heap.size v (pickTo pk 6) (ky k) ∧ Below w.heap.size w w' := by
  have H := Lib.hid h
  have f0 := h.pl.f0
  have hkn : k < n := by omega
  have HT : Hid (th k = true) := Lib.hid (by rw [ht.out k hkn]; exact decide_eq_true hk)
  have HS2 : Hid (∀ j, j < 6 → Sens (ky k j 0) (ky k j 1) (ky k j 2) (ky k j 3) (ky k j 4) (sn k j)) := Lib.hid (fun j hj => (hS.out (fun _ => none) (fun _ => 0)) k j hk hj)
  have HW : Hid (∀ i, i < m → wfH (i : Int) ∧ wfH (vr_ i) ∧ ∀ j, j < 6 → wfH (ky i j 1) ∧ wfH (ky i j 2)) := Lib.hid (fun i hi => ⟨wfH.mk (by omega) (by omega), (hwf.out i hi).1, (hwf.out i hi).2⟩)
  have hm2 : m ≤ 256 := by omega
  clear h
  go_enter Tryd.func51, Tryd.ntmps51
  go_wp2_with (first
    | (go_at_call 21; (with_reducible refine (athere_in k hkn true HT _ H.out.ar).mono ?_); rintro e w1 ⟨rfl, rfl⟩)
    | (go_at_call 72; (with_reducible refine (mktold_is k hkn HT (sl k) (Lib.hid rfl) (vr_ k) (Lib.hid rfl) _ H.out).mono ?_); rintro e w2 ⟨g', c', rfl, hrow, hb⟩; have HRow := Lib.hid hrow; have HB2 := Lib.hid hb; clear hrow hb f0)
    | (go_at_call 42; (with_reducible refine (mkall_is m hm hn ht _ (H.out.below HB2.out)).mono ?_); rintro e w3 ⟨v, pa, cp, rfl, hfl, hb⟩; obtain ⟨a9, c9, hv, hfac⟩ := hfl.fac HW.out hm2 (fun _ => (by show (6 : Nat) ≤ 64; decide)); subst hv; have HFac := Lib.hid hfac; have HB3 := Lib.hid hb; have HKy := Lib.hid (kys_of_row (rowbelow HRow.out hb) (fun j hj => (HW.out k hk).2.2 j hj)); clear hfl hfac hb)
    | (go_at_call 76; (with_reducible refine (hof_is a9 (MD m vr_ sl ky pa cp) ((MD m vr_ sl ky pa cp)).n c9 (Lib.hid rfl) sn R (Lib.hid (hR.out pa cp)) (k : Int) (vr_ k) (sl k) (some ⟨g', 0, none⟩) 6 c' (ky k) (sn k) (by decide) HS2 pk (Lib.hid (hp.out pa cp)) _ HFac.out HKy.out (Lib.hid (hS.out pa cp))).mono ?_); rintro e w4 ⟨v4, rfl, hr, hb⟩; have HR4 := Lib.hid hr; have HB4 := Lib.hid (HB2.out.trans ((HB3.out.trans (hb.mono HB3.out.size)).mono HB2.out.size)); have HZ := Lib.hid (Nat.le_trans HB2.out.size HB3.out.size); clear hr hb))
  go_ret
  exact ⟨_, rfl, row_base HR4.out HZ.out, HB4.out⟩
end Go.Proofs.YtahhnfhnlffmpaaDoor
namespace Go.Proofs.YtahhnfhnlffmpaaDoor
open Go.ChangeShapes Go.WideShapes Go.ChangeAt Go.RowKit Go.Maps
set_option linter.unusedVariables false
theorem mkmay_state_at {base P p B G n c : Nat} {th : Nat → Bool} {vr_ : Nat → Int} {sl : Nat → Bool} {ky : Nat → Nat → Nat → Int} (id : Int) (k : Nat) (hid : Hid (id = k)) (hk : k < n) (ht : Hid (th k = true)) (hs : Hid (sl k = true)) (z : Addr) (w : World) (h : MkAt w base P p B G n c th vr_ sl ky) (hE : w.cell? ⟨5, 0, none⟩ = some (eV z)) :
    Calls Tryd.prog 73 #[.pointer (some ⟨P, 0, none⟩), .int .i64 id] w fun e w' => e = .returned (eV z) ∧ w = w' := by
  rw [hid.out]; exact mkmay_state k hk ht hs z w h hE
theorem mkseal_at {base P p B G n c : Nat} {th : Nat → Bool} {vr_ : Nat → Int} {sl : Nat → Bool} {ky : Nat → Nat → Nat → Int} (id : Int) (k : Nat) (hid : Hid (id = k)) (hk : k < n) (ht : Hid (th k = true)) (hs : Hid (sl k = false)) (w : World) (h : MkAt w base P p B G n c th vr_ sl ky) :
    Calls Tryd.prog 46 #[.pointer (some ⟨P, 0, none⟩), .int .i64 id] w fun e w' => e = .returned .nilIface ∧ MkAt w' base P p B G n c th vr_ (upd sl k true) ky ∧ PBelow w w' B G := by
  rw [hid.out]; exact mkseal_ok k hk ht hs w h
theorem mksealed_at {base P p B G n c : Nat} {th : Nat → Bool} {vr_ : Nat → Int} {sl : Nat → Bool} {ky : Nat → Nat → Nat → Int} (id : Int) (k : Nat) (hid : Hid (id = k)) (hk : k < n) (ht : Hid (th k = true)) (t : Bool) (hs : Hid (sl k = t)) (w : World) (h : MkAt w base P p B G n c th vr_ sl ky) :
    Calls Tryd.prog 49 #[.pointer (some ⟨P, 0, none⟩), .int .i64 id] w fun e w' => e = .returned (.bool t) ∧ w = w' := by
  rw [hid.out]; exact mksealed_in k hk ht t hs w h
theorem mkparts_at {base P p B G n c : Nat} {th : Nat → Bool} {vr_ : Nat → Int} {sl : Nat → Bool} {ky : Nat → Nat → Nat → Int} (id : Int) (k : Nat) (hid : Hid (id = k)) (hk : k < n) (ht : Hid (th k = true)) (w : World) (h : MkAt w base P p B G n c th vr_ sl ky) :
    Calls Tryd.prog 50 #[.pointer (some ⟨P, 0, none⟩), .int .i64 id] w fun e w' => ∃ g' c', e = .returned (.slice (some ⟨g', 0, none⟩) 6 c') ∧ w'.ownsRow w.heap.size 32 5 (.slice (some ⟨g', 0, none⟩) 6 c') 6 (kcs (ky k) 6) ∧ Below w.heap.size w w' := by
  rw [hid.out]; exact mkparts_in k hk ht w h
theorem mkinstall_at {base P p B G n c : Nat} {th : Nat → Bool} {vr_ : Nat → Int} {sl : Nat → Bool} {ky : Nat → Nat → Nat → Int} (vs vr : Value) (id at_ : Int) (k a : Nat) (hid : Hid (id = k ∧ at_ = a)) (hk : k < n) (ha : a < 6) (ht : Hid (th k = true)) (hs : Hid (sl k = false)) (y0 y1 y2 y3 y4 : Int) (hy : Hid (rightB y0 y1 y2 y3 y4 = true)) (w : World) (hE : ErrsAt vs vr w) (h : MkAt w base P p B G n c th vr_ sl ky) :
    Calls Tryd.prog 45 #[.pointer (some ⟨P, 0, none⟩), .int .i64 id, .int .i64 at_, (Value.agg #[.int .i64 y0, .int .i64 y1, .int .i64 y2, .int .i64 y3, .int .u32 y4])] w fun e w' => e = .returned .nilIface ∧ MkAt w' base P p B G n c th vr_ sl (updP ky k a y0 y1 y2 y3 y4) ∧ PBelow w w' B G := by
  rw [hid.out.1, hid.out.2]; exact mkinstall_ok vs vr k a hk ha ht hs y0 y1 y2 y3 y4 hy w hE h
theorem mkinstall_rat {base P p B G n c : Nat} {th : Nat → Bool} {vr_ : Nat → Int} {sl : Nat → Bool} {ky : Nat → Nat → Nat → Int} (id : Int) (k : Nat) (hid : Hid (id = k)) (a : Int) (hk : k < n) (ha : ¬ (0 ≤ a ∧ a < 6)) (ht : Hid (th k = true)) (hs : Hid (sl k = false)) (y0 y1 y2 y3 y4 : Int) (z : Addr) (w : World) (hE : w.cell? ⟨1, 0, none⟩ = some (eV z)) (hl : 1 < w.heap.size) (h : MkAt w base P p B G n c th vr_ sl ky) :
    Calls Tryd.prog 45 #[.pointer (some ⟨P, 0, none⟩), .int .i64 id, .int .i64 a, (Value.agg #[.int .i64 y0, .int .i64 y1, .int .i64 y2, .int .i64 y3, .int .u32 y4])] w fun e w' => e = .returned (eV z) ∧ Below w.heap.size w w' := by
  rw [hid.out]; exact mkinstall_range k a hk ha ht hs y0 y1 y2 y3 y4 z w hE hl h
theorem mkholes_at {base P p B G n c : Nat} {th : Nat → Bool} {vr_ : Nat → Int} {sl : Nat → Bool} {ky : Nat → Nat → Nat → Int} (id : Int) (k m : Nat) (hid : Hid (id = k)) (hk : k < m) (hm : m ≤ n) (hn : n ≤ 256) (ht : Hid (∀ i, i < n → th i = decide (i < m))) (hwf : Hid (∀ i, i < m → wfH (vr_ i) ∧ ∀ j, j < 6 → wfH (ky i j 1) ∧ wfH (ky i j 2))) (sn : Nat → Nat → Bool) (R : Nat → Bool) (hR : Hid (∀ pa cp, RIs (MD m vr_ sl ky pa cp) sn R)) (hS : Hid (∀ pa cp, SnOk (MD m vr_ sl ky pa cp) sn))
    (pk : Nat → Bool) (hp : Hid (∀ pa cp j, j < 6 → holeB (MD m vr_ sl ky pa cp) R (sn k j) (ky k j 0) (ky k j 1) (ky k j 2) = pk j)) (ln : Nat) (hl : Hid ((pickTo pk 6).length = ln)) (w : World) (h : MkAt w base P p B G n c th vr_ sl ky) :
    Calls Tryd.prog 51 #[.pointer (some ⟨P, 0, none⟩), .int .i64 id] w fun e w' => ∃ va vc, e = .returned (.slice va ln vc) ∧ KRow w' w.heap.size (.slice va ln vc) (pickTo pk 6) (ky k) ∧ Below w.heap.size w w' := by
  rw [hid.out]
  refine (mkholes_is k m hk hm hn ht hwf sn R hR hS pk hp w h).mono fun e w' ⟨v, he, hr, hb⟩ => ?_
  obtain ⟨va, vc, hv⟩ := hof_empty hr
  subst hv
  rw [hl.out] at he hr
  exact ⟨va, vc, he, hr, hb⟩
/-- Factories over a law's start. -/
structure MV (W w : World) (base P p B G n c : Nat) (th : Nat → Bool) (vr : Nat → Int) (sl : Nat → Bool) (ky : Nat → Nat → Nat → Int) : Prop where
  bel : Below W.heap.size W w
  fa : MkAt w base P p B G n c th vr sl ky
  wb : W.heap.size ≤ base
section
variable {W w w' : World} {base P p B G n c : Nat} {th th' : Nat → Bool} {vr vr' : Nat → Int} {sl sl' : Nat → Bool} {ky ky' : Nat → Nat → Nat → Int}
theorem MV.step (h : MV W w base P p B G n c th vr sl ky) (hb : Below w.heap.size w w') : MV W w' base P p B G n c th vr sl ky := ⟨h.bel.trans (hb.mono h.bel.size), h.fa.below hb, h.wb⟩
theorem MV.lo (h : MV W w base P p B G n c th vr sl ky) : W.heap.size ≤ B ∧ W.heap.size ≤ G ∧ B < w.heap.size ∧ G < w.heap.size := ⟨Nat.le_trans h.wb h.fa.ar.lt.1, Nat.le_trans h.wb h.fa.pl.gl.1, h.fa.ar.lt.2, h.fa.pl.gl.2⟩
theorem MV.made (h : MV W w base P p B G n c th vr sl ky) (hM : MkAt w' base P p B G n c th' vr' sl' ky') (hb : PBelow w w' B G) : MV W w' base P p B G n c th' vr' sl' ky' := ⟨h.bel.trans (hb.below h.lo.1 h.lo.2.1 h.bel.size), hM, h.wb⟩
theorem MV.congr (h : MV W w base P p B G n c th vr sl ky) (h1 : ∀ i, i < n → th i = th' i) : MV W w base P p B G n c th' vr sl ky := ⟨h.bel, h.fa.congr h1 (fun _ _ => rfl), h.wb⟩
end
/-- Where no part leads to a factory, those reach out that do by themselves. -/
theorem reach_base {F : Fac} (x : Nat) (hx : x < F.n) (ht : ∀ j, j < F.ct x → F.tg x j = none) : F.Reach x ↔ F.base x = true := by
  constructor
  · intro h
    cases h with
    | self _ _ hb => exact hb
    | part _ j a _ hj htg _ => rw [ht j hj] at htg; cases htg
  · exact fun h => .self x hx h
theorem md_tgt0 (m : Nat) (vr : Nat → Int) (sl : Nat → Bool) (ky : Nat → Nat → Nat → Int) (pa : Nat → Option Addr) (cp : Nat → Nat) (k0 k1 k2 : Int) (h : ¬ k0 = 9) : (MD m vr sl ky pa cp).tgt k0 k1 k2 = none := by unfold FD.tgt; rw [if_neg h]
theorem sens0 : Sens 0 0 0 0 0 true := fun W => sensory_yes 0 0 0 0 0 (Lib.hid (.inr (.inl ⟨by decide, rfl⟩))) W
def kyZ : Nat → Nat → Nat → Int := upd (fun _ _ _ => 0) 0 (fun _ _ => 0)
theorem kyZ_is (i j q : Nat) : kyZ i j q = 0 := by unfold kyZ upd; split <;> rfl
def slZ : Nat → Bool := upd (upd (fun _ => false) 0 false) 0 true
set_option maxRecDepth 100000 in
theorem mkfirst_is (w : World) : Calls Tryd.prog 38 #[] w fun e w' => e = .returned (.bool true) ∧ Below w.heap.size w w' := by
  have hs1 : slZ 0 = true := rfl
  have HT : Hid (∀ i, i < 2 → upd (fun _ => false) 0 true i = decide (i < 1)) := Lib.hid (by
    intro i hi
    have : i = 0 ∨ i = 1 := by omega
    rcases this with rfl | rfl <;> rfl)
  have HW : Hid (∀ i, i < 1 → wfH ((fun _ => (0 : Int)) i) ∧ ∀ j, j < 6 → wfH (kyZ i j 1) ∧ wfH (kyZ i j 2)) := Lib.hid (fun i _ => ⟨(by show wfH 0; exact wfH.mk (by omega) (by omega)), fun j _ => by rw [kyZ_is, kyZ_is]; exact ⟨wfH.mk (by omega) (by omega), wfH.mk (by omega) (by omega)⟩⟩)
  have HR : Hid (∀ pa cp, RIs (MD 1 (fun _ => 0) slZ kyZ pa cp) (fun _ _ => true) (fun _ => false)) := Lib.hid (fun pa cp x hx => by
    rw [reach_base x hx (fun j _ => md_tgt0 _ _ _ _ _ _ _ _ _ (by show ¬ kyZ x j 0 = 9; rw [kyZ_is]; decide))]
    obtain rfl : x = 0 := by have : x < 1 := hx; omega
    refine ⟨fun h => (by cases h), fun h => ?_⟩
    unfold Fac.base Fac.baseTo at h
    rw [Bool.or_eq_true, anyTo_iff] at h
    rcases h with h | ⟨j, _, h⟩
    · have h' : (!slZ 0) = true := h
      rw [hs1] at h'
      cases h'
    · unfold Fac.own at h
      simp [FD.fac] at h)
  have HS : Hid (∀ pa cp, SnOk (MD 1 (fun _ => 0) slZ kyZ pa cp) (fun _ _ => true)) := Lib.hid (fun pa cp i j _ _ => by
    show Sens (kyZ i j 0) (kyZ i j 1) (kyZ i j 2) (kyZ i j 3) (kyZ i j 4) true
    rw [kyZ_is, kyZ_is, kyZ_is, kyZ_is, kyZ_is]; exact sens0)
  have HP : Hid (∀ pa cp j, j < 6 → holeB (MD 1 (fun _ => 0) slZ kyZ pa cp) (fun _ => false) ((fun _ _ => true) 0 j) (kyZ 0 j 0) (kyZ 0 j 1) (kyZ 0 j 2) = (fun _ => false) j) := Lib.hid (fun pa cp j _ => by
    unfold holeB
    rw [md_tgt0 _ _ _ _ _ _ _ _ _ (by rw [kyZ_is]; decide)]
    rfl)
  clear hs1
  go_enter Tryd.func38, Tryd.ntmps38
  go_wp2_with (first
    | (go_at_call 39; (with_reducible refine (mknew_is 2 2 (Lib.hid rfl) (by decide) (by decide) _).mono ?_); rintro e w1 ⟨P, p, B, G, rfl, hM, hb⟩; have H1 : Hid (MV w w1 w.heap.size P p B G 2 2 (fun _ => false) (fun _ => 0) (fun _ => false) (fun _ _ _ => 0)) := Lib.hid ⟨hb, hM, Nat.le_refl _⟩; clear hM hb)
    | (go_at_call 44; (with_reducible refine (mkmake_is 0 0 (Lib.hid rfl) (by decide) (Lib.hid (by decide)) (Lib.hid (by intro i hi; omega)) 0 (Lib.hid rfl) _ H1.out.fa).mono ?_); rintro e w2 ⟨rfl, hM, hb⟩; have H2 := Lib.hid (H1.out.made hM hb); clear hM hb)
    | (go_at_call 46; (with_reducible refine (mkseal_at 0 0 (Lib.hid rfl) (by decide) (Lib.hid rfl) (Lib.hid rfl) _ H2.out.fa).mono ?_); rintro e w3 ⟨rfl, hM, hb⟩; have H3 : Hid (MV w w3 w.heap.size P p B G 2 2 (upd (fun _ => false) 0 true) (fun _ => 0) slZ kyZ) := Lib.hid (H2.out.made hM hb); clear hM hb)
    | (go_at_call 49; (with_reducible refine (mksealed_at 0 0 (Lib.hid rfl) (by decide) (Lib.hid rfl) true (Lib.hid rfl) _ H3.out.fa).mono ?_); rintro e w4 ⟨rfl, rfl⟩)
    | (go_at_call 51; (with_reducible refine (mkholes_at 0 0 1 (Lib.hid rfl) (by decide) (by decide) (by decide) HT HW (fun _ _ => true) (fun _ => false) HR HS (fun _ => false) HP 0 (Lib.hid rfl) _ H3.out.fa).mono ?_); rintro e w5 ⟨va, vc, rfl, hr, hb⟩; have H5 := Lib.hid (H3.out.step hb); clear hr hb))
  go_ret
  exact ⟨rfl, H5.out.bel⟩
end Go.Proofs.YtahhnfhnlffmpaaDoor
namespace Go.Proofs.YtahhnfhnlffmpaaDoor
open Go.ChangeShapes Go.WideShapes Go.ChangeAt Go.RowKit Go.Maps
set_option linter.unusedVariables false
theorem thK_up (k : Nat) : upd (thK k) k true = thK (k + 1) := by
  funext i
  unfold upd thK
  by_cases h : i = k
  · rw [if_pos h]; simp [h]
  · rw [if_neg h]; simp; omega
theorem updF (k : Nat) : upd (fun _ => false) k false = (fun _ => false) := by funext i; unfold upd; split <;> rfl
theorem wrap_in (y : Int) : 0 ≤ IntKind.u32.wrap y ∧ IntKind.u32.wrap y ≤ 4294967295 := by
  rw [IntKind.wrap_u32]
  omega
theorem num_right (y : Int) (h0 : 0 ≤ y) (h1 : y ≤ 4294967295) : rightB 1 0 0 0 y = true := by
  simp [rightB, wB, hidOf, hverOf, hrOf, placesOf, dataMost]
  omega
/-- A row of keys: one of them. -/
theorem kcs_cells {w : World} {Bs g c m : Nat} {kk : Nat → Nat → Int} (h : w.ownsRow Bs 32 5 (.slice (some ⟨g, 0, none⟩) m c) m (kcs kk m)) (i : Nat) (hi : i < m) (y0 y1 y2 y3 y4 : Int) (h0 : kk i 0 = y0) (h1 : kk i 1 = y1) (h2 : kk i 2 = y2) (h3 : kk i 3 = y3) (h4 : kk i 4 = y4) :
    w.cell? ⟨g, i * 5, none⟩ = some (.int .i64 y0) ∧ w.cell? ⟨g, i * 5 + 1, none⟩ = some (.int .i64 y1) ∧ w.cell? ⟨g, i * 5 + 2, none⟩ = some (.int .i64 y2) ∧ w.cell? ⟨g, i * 5 + 3, none⟩ = some (.int .i64 y3) ∧ w.cell? ⟨g, i * 5 + 4, none⟩ = some (.int .u32 y4) := by
  subst h0 h1 h2 h3 h4
  have cell : ∀ q, q < 5 → w.cell? ⟨g, i * 5 + q, none⟩ = some (kval q (kk i q)) := fun q hq => by rw [h.cellAt (i * 5 + q) (by omega)]; exact kcs_at kk m i q hi hq
  exact ⟨cell 0 (by decide), cell 1 (by decide), cell 2 (by decide), cell 3 (by decide), cell 4 (by decide)⟩
theorem fit64 {a : Int} (h : (Lit.int .i64 a).wf = true) : -9223372036854775808 ≤ a ∧ a ≤ 9223372036854775807 := by simpa [Lit.wf, IntKind.min, IntKind.max, IntKind.signed, IntKind.bits] using h
theorem fitu32 {x : Int} (h : (Lit.int .u32 x).wf = true) : x ≤ 4294967295 := by
  simp [Lit.wf, IntKind.min, IntKind.max, IntKind.signed, IntKind.bits] at h
  omega
theorem flatS_congr {s n : Nat} {W W' : Nat → Nat → Value} (h0 : 0 < s) (hw : ∀ i j, i < n → j < s → W i j = W' i j) : flatS s W n = flatS s W' n := by
  apply List.ext_getElem?
  intro j
  by_cases hj : j < n * s
  · have h1 : j / s < n := by rw [Nat.div_lt_iff_lt_mul h0]; exact hj
    simp [flatS, hj, hw (j / s) (j % s) h1 (Nat.mod_lt _ h0)]
  · rw [List.getElem?_eq_none (by rw [flatS_len]; omega), List.getElem?_eq_none (by rw [flatS_len]; omega)]
theorem kcs_flat (f : Nat → Nat → Int) (m : Nat) : kcs f m = flatS 5 (fun a b => kval b (f a b)) m := rfl
theorem kcs_congr {f f' : Nat → Nat → Int} {m : Nat} (h : ∀ a q, a < m → q < 5 → f a q = f' a q) : kcs f m = kcs f' m := by
  rw [kcs_flat, kcs_flat]
  exact flatS_congr (by decide) (fun a b ha hb => by rw [h a b ha hb])
/-- The first i keys, Voids behind. -/
def fS (kk : Nat → Nat → Int) (i : Nat) : Nat → Nat → Int := fun a q => if a < i then kk a q else 0
theorem fS_put (kk : Nat → Nat → Int) (m i : Nat) (hi : i < m) : over (kcs (fS kk i) m) (i * 5) (k5 (kk i 0) (kk i 1) (kk i 2) (kk i 3) (kk i 4)) = kcs (fS kk (i + 1)) m := by
  have hl : (k5 (kk i 0) (kk i 1) (kk i 2) (kk i 3) (kk i 4)).length = 5 := rfl
  have h := flatS_over 5 (fun a b => kval b (fS kk i a b)) m i 0 (k5 (kk i 0) (kk i 1) (kk i 2) (kk i 3) (kk i 4)) hi (by rw [hl]; decide)
  rw [Nat.add_zero] at h
  rw [kcs_flat, h, kcs_flat]
  refine flatS_congr (by decide) fun a b ha hb => ?_
  by_cases e : a = i
  · subst e
    have e2 := updS_in (fun a b => kval b (fS kk a a b)) a 0 (k5 (kk a 0) (kk a 1) (kk a 2) (kk a 3) (kk a 4)) b (by rw [hl]; exact hb)
    rw [Nat.zero_add] at e2
    have e3 := updS_in (fun a' b => kval b (fS kk a a' b)) a 0 (k5 (kk a 0) (kk a 1) (kk a 2) (kk a 3) (kk a 4)) b (by rw [hl]; exact hb)
    rw [Nat.zero_add] at e3
    rw [kval5 _ _ _ _ _ b hb _ e3.symm]
    have e4 : fS kk (a + 1) a b = kk a b := by unfold fS; rw [if_pos (Nat.lt_succ_self a)]
    show _ = kval b (fS kk (a + 1) a b)
    rw [e4]
    rcases five b hb with rfl | rfl | rfl | rfl | rfl <;> simp
  · rw [updS_other _ _ _ _ _ _ (fun h => e h.1)]
    show kval b (fS kk i a b) = kval b (fS kk (i + 1) a b)
    unfold fS
    by_cases h2 : a < i
    · rw [if_pos h2, if_pos (by omega)]
    · rw [if_neg h2, if_neg (by omega)]
/-- A key in a box. -/
structure BK (w : World) (b : Nat) (m0 m1 m2 m3 m4 : Int) : Prop where
  lt : b < w.heap.size
  c0 : w.cell? ⟨b, 0, none⟩ = some (.int .i64 m0)
  c1 : w.cell? ⟨b, 1, none⟩ = some (.int .i64 m1)
  c2 : w.cell? ⟨b, 2, none⟩ = some (.int .i64 m2)
  c3 : w.cell? ⟨b, 3, none⟩ = some (.int .i64 m3)
  c4 : w.cell? ⟨b, 4, none⟩ = some (.int .u32 m4)
section
variable {w w' : World} {b : Nat} {m0 m1 m2 m3 m4 : Int}
theorem BK.new (w : World) (T : TypeId) (m0 m1 m2 m3 m4 : Int) : BK (w.alloc (.cells #[.int .i64 m0, .int .i64 m1, .int .i64 m2, .int .i64 m3, .int .u32 m4] T (0, 0))) w.heap.size m0 m1 m2 m3 m4 := ⟨by simp, by simp, by simp, by simp, by simp, by simp⟩
theorem BK.same (h : BK w b m0 m1 m2 m3 m4) (hb : w'.heap[b]? = w.heap[b]?) (hs : w.heap.size ≤ w'.heap.size) : BK w' b m0 m1 m2 m3 m4 :=
  ⟨Nat.lt_of_lt_of_le h.lt hs, (World.cell?_of_block (a := ⟨b, 0, none⟩) hb).trans h.c0, (World.cell?_of_block (a := ⟨b, 1, none⟩) hb).trans h.c1, (World.cell?_of_block (a := ⟨b, 2, none⟩) hb).trans h.c2, (World.cell?_of_block (a := ⟨b, 3, none⟩) hb).trans h.c3, (World.cell?_of_block (a := ⟨b, 4, none⟩) hb).trans h.c4⟩
theorem BK.below (h : BK w b m0 m1 m2 m3 m4) (hb : Below w.heap.size w w') : BK w' b m0 m1 m2 m3 m4 := h.same (hb.block b h.lt) hb.size
theorem BK.made {B G : Nat} (h : BK w b m0 m1 m2 m3 m4) (hb : PBelow w w' B G) (h1 : b ≠ B) (h2 : b ≠ G) : BK w' b m0 m1 m2 m3 m4 := h.same (hb.2.2.2.2 b h.lt h1 h2) hb.2.2.2.1
end
end Go.Proofs.YtahhnfhnlffmpaaDoor
namespace Go.Proofs.YtahhnfhnlffmpaaDoor
open Go.ChangeShapes Go.WideShapes Go.ChangeAt Go.RowKit Go.Maps
set_option linter.unusedVariables false
theorem fidx_id' (D : FD) (hid : ∀ i, D.id i = (i : Int)) (a : Nat) (b : Int) : ∀ m, D.fidx a b m = if a < m ∧ D.ver a = b then some a else none
  | 0 => by simp [FD.fidx]
  | m + 1 => by
    unfold FD.fidx
    rw [fidx_id' D hid a b m, hid m]
    by_cases h : a < m ∧ D.ver a = b
    · rw [if_pos h, if_pos (show a < m + 1 ∧ D.ver a = b from ⟨by omega, h.2⟩)]
    · rw [if_neg h]
      simp only
      by_cases h2 : a = m
      · subst h2
        by_cases h3 : D.ver a = b
        · rw [if_pos ⟨rfl, h3⟩, if_pos ⟨by omega, h3⟩]
        · rw [if_neg (fun h => h3 h.2), if_neg (fun h => h3 h.2)]
      · rw [if_neg (fun h => h2 (by omega))]
        rw [if_neg]
        intro h3
        exact h ⟨by omega, h3.2⟩
theorem sens9' (a b : Int) : Sens 9 a b 0 0 false := fun W => sensory_no 9 a b 0 0 0 0 0 0 0 (Lib.hid (.inr (.inr ⟨by simp, rfl⟩))) (.inl (by decide)) W
theorem sens7' : Sens 7 0 0 0 0 false := fun W => sensory_no 7 0 0 0 0 0 0 0 0 0 (Lib.hid (.inr (.inr ⟨by decide, rfl⟩))) (.inl (by decide)) W
theorem sens3' (a : Int) : Sens 3 a 0 5 0 true := fun W => sensory_yes 3 a 0 5 0 (Lib.hid (.inl ⟨by simp, by
  have e : bits BinOp.or IntKind.i64 5 5 = 5 := by decide
  simp [e]⟩)) W
/-- The parts behind k rounds; with a key to a meter, or without. -/
def kyT (n op : Nat) (r : Bool) (k i a q : Nat) : Int :=
  if i = n then (if a < k then (if q = 0 then 9 else if q = 1 then (a : Int) else 0) else 0)
  else if i < k ∧ a = 0 then (if q = 0 then 3 else if q = 1 then (i : Int) else if q = 3 then 5 else 0)
  else if r = true ∧ i = op ∧ a = 1 then (if q = 0 then 7 else 0) else 0
def slT (op : Nat) (u : Bool) (k i : Nat) : Bool := decide (i < k) && !(decide (i = op) && u)
def KT (n op : Nat) (r : Bool) (k : Nat) (ky : Nat → Nat → Nat → Int) : Prop := ∀ i a q, i ≤ n → a < 6 → q < 5 → ky i a q = kyT n op r k i a q
def ST_ (n op : Nat) (u : Bool) (k : Nat) (sl : Nat → Bool) : Prop := ∀ i, i ≤ n → sl i = slT op u k i
theorem KT.next {n op k : Nat} {ky : Nat → Nat → Nat → Int} (hk : k < n) (h : KT n op false k ky) : KT n op false (k + 1) (updP (updP ky n k 9 k 0 0 0) k 0 3 k 0 5 0) := by
  intro i a q hi ha hq
  by_cases e1 : i = k ∧ a = 0
  · obtain ⟨rfl, rfl⟩ := e1
    have hne : i ≠ n := by omega
    rcases five q hq with rfl | rfl | rfl | rfl | rfl <;> simp [updP, kyT, hne]
  · rw [updP_other _ _ _ _ _ _ _ _ _ _ _ e1]
    by_cases e2 : i = n ∧ a = k
    · obtain ⟨rfl, rfl⟩ := e2
      rcases five q hq with rfl | rfl | rfl | rfl | rfl <;> simp [updP, kyT]
    · rw [updP_other _ _ _ _ _ _ _ _ _ _ _ e2, h i a q hi ha hq]
      unfold kyT
      by_cases hin : i = n
      · rw [if_pos hin, if_pos hin]
        by_cases h1 : a < k
        · have h3 : a < k + 1 := by omega
          rw [if_pos h1, if_pos h3]
        · have h3 : ¬ a < k + 1 := by omega
          rw [if_neg h1, if_neg h3]
      · rw [if_neg hin, if_neg hin]
        by_cases h1 : i < k ∧ a = 0
        · have h3 : i < k + 1 ∧ a = 0 := by omega
          rw [if_pos h1, if_pos h3]
        · have h3 : ¬ (i < k + 1 ∧ a = 0) := by omega
          rw [if_neg h1, if_neg h3]
theorem KT.meter {n op : Nat} {ky : Nat → Nat → Nat → Int} (ho : op < n) (h : KT n op false n ky) : KT n op true n (updP ky op 1 7 0 0 0 0) := by
  intro i a q hi ha hq
  by_cases e1 : i = op ∧ a = 1
  · obtain ⟨rfl, rfl⟩ := e1
    have hne : i ≠ n := by omega
    rcases five q hq with rfl | rfl | rfl | rfl | rfl <;> simp [updP, kyT, hne]
  · rw [updP_other _ _ _ _ _ _ _ _ _ _ _ e1, h i a q hi ha hq]
    unfold kyT
    by_cases hin : i = n
    · rw [if_pos hin, if_pos hin]
    · rw [if_neg hin, if_neg hin]
      by_cases h1 : i < n ∧ a = 0
      · rw [if_pos h1, if_pos h1]
      · rw [if_neg h1, if_neg h1, if_neg (by simp), if_neg (by rintro ⟨_, h2, h3⟩; exact e1 ⟨h2, h3⟩)]
theorem KT.zero {n op : Nat} {ky : Nat → Nat → Nat → Int} (h : ∀ i a q, ky i a q = 0) : KT n op false 0 ky := by
  intro i a q _ _ _
  rw [h]
  unfold kyT
  split
  · rw [if_neg (by omega)]
  · rw [if_neg (by omega), if_neg (by simp)]
theorem ST_.seal {n op k : Nat} {sl : Nat → Bool} (hk : k < n) (hne : k ≠ op) (h : ST_ n op true k sl) : ST_ n op true (k + 1) (upd sl k true) := by
  intro i hi
  by_cases e : i = k
  · subst e
    rw [upd_at]
    simp [slT, hne]
  · rw [upd_other _ _ _ _ e, h i hi]
    unfold slT
    have : decide (i < k) = decide (i < k + 1) := by by_cases h1 : i < k <;> simp [h1] <;> omega
    rw [this]
theorem ST_.skip {n op : Nat} {sl : Nat → Bool} (h : ST_ n op true op sl) : ST_ n op true (op + 1) sl := by
  intro i hi
  rw [h i hi]
  unfold slT
  by_cases e : i = op
  · subst e; simp
  · have : decide (i < op) = decide (i < op + 1) := by by_cases h1 : i < op <;> simp [h1] <;> omega
    rw [this]
theorem ST_.all {n op : Nat} {sl : Nat → Bool} (ho : op < n) (h : ST_ n op true n sl) : ST_ n op false n (upd sl op true) := by
  intro i hi
  by_cases e : i = op
  · subst e
    rw [upd_at]
    simp [slT, ho]
  · rw [upd_other _ _ _ _ e, h i hi]
    simp [slT, e]
def snT (n op : Nat) (r : Bool) (i a : Nat) : Bool := if i = n then !decide (a < n) else !(r && (decide (i = op) && decide (a = 1)))
def rT (n op : Nat) (t : Bool) (x : Nat) : Bool := decide (x = n) || (decide (x = op) && t)
section
variable {n op : Nat} {r u : Bool} {sl : Nat → Bool} {ky : Nat → Nat → Nat → Int} {pa : Nat → Option Addr} {cp : Nat → Nat}
theorem trust_wf (hn : n ≤ 5) (hK : KT n op r n ky) : ∀ i, i < n + 1 → wfH ((fun _ => (0 : Int)) i) ∧ ∀ j, j < 6 → wfH (ky i j 1) ∧ wfH (ky i j 2) := by
  intro i hi
  refine ⟨(by show wfH 0; exact wfH.mk (by omega) (by omega)), fun j hj => ?_⟩
  rw [hK i j 1 (by omega) hj (by decide), hK i j 2 (by omega) hj (by decide)]
  unfold kyT
  constructor <;> refine wfH.mk ?_ ?_ <;> repeat' split
  all_goals omega
theorem trust_sens (hn : n ≤ 5) (ho : op < n) (hK : KT n op r n ky) : SnOk (MD (n + 1) (fun _ => 0) sl ky pa cp) (snT n op r) := by
  intro i j hi hj
  have hi' : i < n + 1 := hi
  have hj' : j < 6 := hj
  show Sens (ky i j 0) (ky i j 1) (ky i j 2) (ky i j 3) (ky i j 4) (snT n op r i j)
  have e : ∀ q, q < 5 → ky i j q = kyT n op r n i j q := fun q hq => hK i j q (by omega) hj' hq
  rw [e 0 (by decide), e 1 (by decide), e 2 (by decide), e 3 (by decide), e 4 (by decide)]
  by_cases h1 : i = n
  · by_cases h2 : j < n
    · simpa [kyT, snT, h1, h2] using sens9' (j : Int) 0
    · simpa [kyT, snT, h1, h2] using sens0
  · by_cases h2 : j = 0
    · have h3 : i < n := by omega
      simpa [kyT, snT, h1, h2, h3] using sens3' (i : Int)
    · by_cases h3 : r = true ∧ i = op ∧ j = 1
      · obtain ⟨rfl, rfl, rfl⟩ := h3
        simpa [kyT, snT, h1] using sens7'
      · have h4 : (!(r && (decide (i = op) && decide (j = 1)))) = true := by
          cases r <;> by_cases a1 : i = op <;> by_cases a2 : j = 1 <;> simp_all
        have e0 : ∀ q, kyT n op r n i j q = 0 := by
          intro q
          unfold kyT
          rw [if_neg h1, if_neg (fun h => h2 h.2), if_neg h3]
        have h5 : snT n op r i j = true := by unfold snT; rw [if_neg h1]; exact h4
        rw [e0, e0, e0, e0, e0, h5]
        exact sens0
theorem trust_tgt (hn : n ≤ 5) (hK : KT n op r n ky) (x j : Nat) (hx : x < n) (hj : j < 6) : ((MD (n + 1) (fun _ => 0) sl ky pa cp)).tgt (ky x j 0) (ky x j 1) (ky x j 2) = none := by
  refine md_tgt0 _ _ _ _ _ _ _ _ _ ?_
  rw [hK x j 0 (by omega) hj (by decide)]
  unfold kyT
  rw [if_neg (by omega)]
  repeat' split
  all_goals simp_all
theorem trust_own (hn : n ≤ 5) (hK : KT n op r n ky) (x j : Nat) (hx : x < n) (hj : j < 6) : (((MD (n + 1) (fun _ => 0) sl ky pa cp)).fac (snT n op r)).own x j = (r && (decide (x = op) && decide (j = 1))) := by
  unfold Fac.own
  rw [show (((MD (n + 1) (fun _ => 0) sl ky pa cp)).fac (snT n op r)).tg x j = none from trust_tgt hn hK x j hx hj]
  show (true && !snT n op r x j) = _
  unfold snT
  rw [if_neg (by omega)]
  simp
theorem trust_reach (hn : n ≤ 5) (ho : op < n) (hK : KT n op r n ky) (hS : ST_ n op u n sl) : RIs (MD (n + 1) (fun _ => 0) sl ky pa cp) (snT n op r) (rT n op (u || r)) := by
  intro x hx
  have hx' : x < n + 1 := hx
  by_cases e : x = n
  · have h1 : sl x = false := by rw [hS x (by omega), e]; simp [slT]
    refine ⟨fun _ => .self x hx ?_, fun _ => by simp [rT, e]⟩
    unfold Fac.base Fac.baseTo
    rw [show (((MD (n + 1) (fun _ => 0) sl ky pa cp)).fac (snT n op r)).sl x = sl x from rfl, h1]
    rfl
  · have hxn : x < n := by omega
    rw [reach_base x hx (fun j hj => trust_tgt hn hK x j hxn hj)]
    have h1 : sl x = !(decide (x = op) && u) := by rw [hS x (by omega)]; simp [slT, hxn]
    unfold Fac.base Fac.baseTo
    rw [show (((MD (n + 1) (fun _ => 0) sl ky pa cp)).fac (snT n op r)).sl x = sl x from rfl, h1, Bool.or_eq_true, anyTo_iff]
    unfold rT
    constructor
    · intro h
      simp [e] at h
      obtain ⟨rfl, h | h⟩ := h
      · exact .inl (by simp [h])
      · exact .inr ⟨1, (by show 1 < 6; decide), by rw [trust_own hn hK x 1 hxn (by decide), h]; simp⟩
    · rintro (h | ⟨j, hj, h⟩)
      · simp at h
        simp [h.1, h.2]
      · rw [trust_own hn hK x j hxn hj] at h
        simp at h
        simp [h.1, h.2.1]
theorem trust_holes_n (hn : n ≤ 5) (ho : op < n) (hK : KT n op r n ky) (t : Bool) (j : Nat) (hj : j < 6) : holeB (MD (n + 1) (fun _ => 0) sl ky pa cp) (rT n op t) (snT n op r n j) (ky n j 0) (ky n j 1) (ky n j 2) = (decide (j = op) && t) := by
  have e : ∀ q, q < 5 → ky n j q = kyT n op r n n j q := fun q hq => hK n j q (Nat.le_refl _) hj hq
  rw [e 0 (by decide), e 1 (by decide), e 2 (by decide)]
  unfold holeB
  by_cases h : j < n
  · have h1 : ((MD (n + 1) (fun _ => 0) sl ky pa cp)).tgt (kyT n op r n n j 0) (kyT n op r n n j 1) (kyT n op r n n j 2) = some j := by
      have k0 : kyT n op r n n j 0 = 9 := by simp [kyT, h]
      have k1 : kyT n op r n n j 1 = (j : Int) := by simp [kyT, h]
      have k2 : kyT n op r n n j 2 = 0 := by simp [kyT]
      rw [k0, k1, k2]
      unfold FD.tgt
      rw [if_pos rfl]
      have h2 := fidx_id' (MD (n + 1) (fun _ => 0) sl ky pa cp) (fun _ => rfl) j 0 (n + 1)
      rw [if_pos ⟨by omega, rfl⟩] at h2
      exact h2
    rw [h1]
    show rT n op t j = _
    unfold rT
    simp [show j ≠ n by omega]
  · have h1 : ((MD (n + 1) (fun _ => 0) sl ky pa cp)).tgt (kyT n op r n n j 0) (kyT n op r n n j 1) (kyT n op r n n j 2) = none := md_tgt0 _ _ _ _ _ _ _ _ _ (by simp [kyT, h])
    rw [h1]
    simp [snT, h, show j ≠ op by omega]
theorem trust_holes_o (hn : n ≤ 5) (ho : op < n) (hK : KT n op r n ky) (t : Bool) (j : Nat) (hj : j < 6) : holeB (MD (n + 1) (fun _ => 0) sl ky pa cp) (rT n op t) (snT n op r op j) (ky op j 0) (ky op j 1) (ky op j 2) = (decide (j = 1) && r) := by
  unfold holeB
  rw [trust_tgt hn hK op j ho hj]
  simp [snT, show op ≠ n by omega]
  cases r <;> simp
end
theorem pick_one (o : Nat) (ho : o < 6) (t : Bool) : (pickTo (fun j => decide (j = o) && t) 6).length = if t then 1 else 0 := by
  have : o = 0 ∨ o = 1 ∨ o = 2 ∨ o = 3 ∨ o = 4 ∨ o = 5 := by omega
  rcases this with rfl | rfl | rfl | rfl | rfl | rfl <;> cases t <;> rfl
theorem mk_right9 (a : Int) (h0 : 0 ≤ a) (h : a ≤ 8) : rightB 9 a 0 0 0 = true := by
  simp [rightB, wB, hidOf, hverOf, hrOf, placesOf, dataMost]
  omega
theorem mk_right3 (a : Int) (h0 : 0 ≤ a) (h : a ≤ 8) : rightB 3 a 0 5 0 = true := by
  simp [rightB, wB, hidOf, hverOf, hrOf, placesOf, dataMost]
  omega
set_option maxRecDepth 100000 in
set_option maxHeartbeats 8000000 in
theorem trust_any (a0 a1 : Int) (r : Bool) (n op R : Nat) (hR : Hid (n = R + 1)) (hR5 : R < 5) (ho : op < n) (CR : Hid (∀ w, Calls Tryd.prog 26 #[.int .i64 a0, .int .i64 5] w fun e w' => e = .returned (.int .i64 (R : Int)) ∧ w = w')) (CP : Hid (∀ w, Calls Tryd.prog 26 #[.int .i64 a1, .int .i64 n] w fun e w' => e = .returned (.int .i64 (op : Int)) ∧ w = w')) (vs vr : Value) (w : World) (hE : ErrsAt vs vr w) : Calls Tryd.prog 8 #[.int .i64 a0, .int .i64 a1, .bool r] w fun e w' => e = .returned (.bool true) ∧ Below w.heap.size w w' := by
  have HE := Lib.hid hE
  have hn1 : (R : Int) + 1 = (n : Int) := by have := hR.out; omega
  have hn0 : 1 ≤ n := by have := hR.out; omega
  have hn5 : n ≤ 5 := by have := hR.out; omega
  clear hE
  go_enter Tryd.func8, Tryd.ntmps8
  go_wp2_with (first
    | (go_at_call 38; (with_reducible refine (mkfirst_is _).mono ?_); rintro e w1 ⟨rfl, hb1⟩; have HB1 := Lib.hid hb1; clear hb1)
    | (go_at_call 26; (with_reducible refine (CR.out _).mono ?_); rintro e w2 ⟨rfl, rfl⟩)
    | (go_at_call 26; (with_reducible refine (CP.out _).mono ?_); rintro e w2 ⟨rfl, rfl⟩)
    | (go_at_call 39; (with_reducible refine (mknew_is 8 8 (Lib.hid rfl) (by decide) (by decide) _).mono ?_); rintro e w2 ⟨P, p, B, G, rfl, hP, hb⟩; have HV : Hid (MV w w2 w1.heap.size P p B G 8 8 (fun _ => false) (fun _ => 0) (fun _ => false) (fun _ _ _ => 0)) := Lib.hid ⟨HB1.out.trans (hb.mono HB1.out.size), hP, HB1.out.size⟩; clear hP hb))
  go_loopw [10] (fun z wr => ∃ (k : Nat) (ky : Nat → Nat → Nat → Int), k ≤ n + 1 ∧ z = .int .i64 k ∧ MV w wr w1.heap.size P p B G 8 8 (thK k) (fun _ => 0) (fun _ => false) ky ∧ ∀ i a q, ky i a q = 0) (fun z _ => n + 1 - (intOf z).toNat)
  case atStart => exact ⟨0, _, by omega, rfl, HV.out.congr (fun i _ => by simp [thK]), fun i a q => rfl⟩
  case round =>
    obtain ⟨k, ky, hk, rfl, hV, hK⟩ := hrel
    have HV1 := Lib.hid hV
    have HK := Lib.hid hK
    clear hV hK HV
    by_cases hlt : k ≤ n
    · have k0 : (0 : Int) ≤ k := by omega
      have hd : decide ((k : Int) ≤ (n : Int)) = true := decide_eq_true (by omega)
      have HF : Hid (freeB (thK k) (fun _ => 0) k = true) := Lib.hid (by simp [freeB, thK])
      have HNo : Hid (∀ i, i < k → freeB (thK k) (fun _ => 0) i = false) := Lib.hid (by intro i hi; simp [freeB, thK, hi])
      have HZ : Hid (∀ i a q, upd ky k (fun _ _ => 0) i a q = 0) := Lib.hid (fun i a q => by unfold upd; split; rfl; exact HK.out i a q)
      go_wp2_with (first
        | (go_at_call 44; (with_reducible refine (mkmake_is (k : Int) k (Lib.hid rfl) (by omega) HF HNo 0 (Lib.hid rfl) _ HV1.out.fa).mono ?_); rintro e w4 ⟨rfl, hM, hb⟩; rw [updF] at hM; have HV4 : Hid (MV w w4 w1.heap.size P p B G 8 8 (thK (k + 1)) (fun _ => 0) (fun _ => false) _) := Lib.hid (HV1.out.made (by rw [← thK_up]; exact hM) hb); clear hM hb))
      go_roundw
      case rel => exact ⟨k + 1, _, by omega, by go_num, HV4.out, HZ.out⟩
      case measure => simp [intOf]; omega
    · have hd : decide ((k : Int) ≤ (n : Int)) = false := decide_eq_false (by omega)
      have HVn : Hid (MV w wr w1.heap.size P p B G 8 8 (thK (n + 1)) (fun _ => 0) (fun _ => false) ky) := Lib.hid (by
        have e : k = n + 1 := by omega
        have h := HV1.out
        rwa [e] at h)
      have HTA : Hid (∀ i, i < 8 → thK (n + 1) i = decide (i < n + 1)) := Lib.hid (fun i _ => rfl)
      have HTo : Hid (thK (n + 1) op = true) := Lib.hid (by simp [thK]; omega)
      have HTn : Hid (thK (n + 1) n = true) := Lib.hid (by simp [thK])
      have HK0 := Lib.hid (KT.zero (n := n) (op := op) HK.out)
      go_wp2_with fail
      go_loopw [11] (fun z wr => ∃ (k : Nat) (sl : Nat → Bool) (ky : Nat → Nat → Nat → Int), k ≤ n ∧ z = .int .i64 k ∧ MV w wr w1.heap.size P p B G 8 8 (thK (n + 1)) (fun _ => 0) sl ky ∧ KT n op false k ky ∧ ST_ n op true k sl) (fun z _ => n - (intOf z).toNat)
      case atStart => exact ⟨0, _, _, by omega, rfl, HVn.out, HK0.out, fun i _ => by simp [slT]⟩
      case round =>
        obtain ⟨k2, sl, ky2, hk2, rfl, hV, hKT, hST⟩ := hrel
        have HV5 := Lib.hid hV
        have HKT := Lib.hid hKT
        have HS := Lib.hid hST
        clear hV hKT hST HV1 HK0 HVn
        by_cases hkn : k2 < n
        · have k0 : (0 : Int) ≤ k2 := by omega
          have HTk : Hid (thK (n + 1) k2 = true) := Lib.hid (by simp [thK]; omega)
          have HSn : Hid (sl n = false) := Lib.hid (by rw [HS.out n (Nat.le_refl _)]; simp [slT]; omega)
          have HSk : Hid (sl k2 = false) := Lib.hid (by rw [HS.out k2 (by omega)]; simp [slT])
          have HR9 := Lib.hid (mk_right9 (k2 : Int) (by omega) (by omega))
          have HR3 := Lib.hid (mk_right3 (k2 : Int) (by omega) (by omega))
          have HKn := Lib.hid (HKT.out.next hkn)
          by_cases hko : k2 = op
          · have HSkip : Hid (ST_ n op true (k2 + 1) sl) := Lib.hid (by subst hko; exact HS.out.skip)
            have eko : ((k2 : Int) != (op : Int)) = false := by simp; omega
            clear hko
            go_wp2_with (first
              | (go_at_call 45; (with_reducible refine (mkinstall_ok vs vr n k2 (by omega) (by omega) HTn HSn 9 k2 0 0 0 HR9 _ (HE.out.below HV5.out.bel) HV5.out.fa).mono ?_); rintro e w6 ⟨rfl, hM, hb⟩; have HV6 := Lib.hid (HV5.out.made hM hb); clear hM hb)
              | (go_at_call 45; (with_reducible refine (mkinstall_at vs vr (k2 : Int) 0 k2 0 (Lib.hid ⟨rfl, rfl⟩) (by omega) (by decide) HTk HSk 3 k2 0 5 0 HR3 _ (HE.out.below HV6.out.bel) HV6.out.fa).mono ?_); rintro e w7 ⟨rfl, hM, hb⟩; have HV7 := Lib.hid (HV6.out.made hM hb); clear hM hb))
            go_roundw
            case rel => exact ⟨k2 + 1, _, _, by omega, by go_num, HV7.out, HKn.out, HSkip.out⟩
            case measure => simp [intOf]; omega
          · have HSeal : Hid (ST_ n op true (k2 + 1) (upd sl k2 true)) := Lib.hid (HS.out.seal hkn hko)
            have eko : ((k2 : Int) != (op : Int)) = true := by simp; omega
            clear hko
            go_wp2_with (first
              | (go_at_call 45; (with_reducible refine (mkinstall_ok vs vr n k2 (by omega) (by omega) HTn HSn 9 k2 0 0 0 HR9 _ (HE.out.below HV5.out.bel) HV5.out.fa).mono ?_); rintro e w6 ⟨rfl, hM, hb⟩; have HV6 := Lib.hid (HV5.out.made hM hb); clear hM hb)
              | (go_at_call 45; (with_reducible refine (mkinstall_at vs vr (k2 : Int) 0 k2 0 (Lib.hid ⟨rfl, rfl⟩) (by omega) (by decide) HTk HSk 3 k2 0 5 0 HR3 _ (HE.out.below HV6.out.bel) HV6.out.fa).mono ?_); rintro e w7 ⟨rfl, hM, hb⟩; have HV7 := Lib.hid (HV6.out.made hM hb); clear hM hb)
              | (go_at_call 46; (with_reducible refine (mkseal_ok k2 (by omega) HTk HSk _ HV7.out.fa).mono ?_); rintro e w8 ⟨rfl, hM, hb⟩; have HV8 := Lib.hid (HV7.out.made hM hb); clear hM hb))
            go_roundw
            case rel => exact ⟨k2 + 1, _, _, by omega, by go_num, HV8.out, HKn.out, HSeal.out⟩
            case measure => simp [intOf]; omega
        · have hkk : decide ((k2 : Int) < (n : Int)) = false := decide_eq_false (by omega)
          have HSo : Hid (sl op = false) := Lib.hid (by rw [HS.out op (by omega)]; simp [slT])
          have HKN : Hid (KT n op false n ky2) := Lib.hid (by
            have e : k2 = n := by omega
            have h := HKT.out
            rwa [e] at h)
          have HSN : Hid (ST_ n op true n sl) := Lib.hid (by
            have e : k2 = n := by omega
            have h := HS.out
            rwa [e] at h)
          cases r with
          | false =>
            go_wp2_with (first
              | (go_at_call 51; (with_reducible refine ((mkholes_at (n : Int) n (n + 1) (Lib.hid rfl) (by omega) (by omega) (by decide) HTA (Lib.hid (trust_wf hn5 HKN.out)) (snT n op false) (rT n op true) (Lib.hid (fun pa cp => trust_reach hn5 ho HKN.out HSN.out)) (Lib.hid (fun pa cp => trust_sens hn5 ho HKN.out)) (fun j => decide (j = op) && true) (Lib.hid (fun pa cp j hj => trust_holes_n hn5 ho HKN.out true j hj)) 1 (Lib.hid (pick_one _ (by omega) _)) _ HV5.out.fa)).mono ?_); rintro e w11 ⟨va, vc, rfl, hr, hb⟩; have H11 := Lib.hid (HV5.out.step hb); clear hr hb) | (go_at_call 46; (with_reducible refine (mkseal_at (op : Int) op (Lib.hid rfl) (by omega) HTo HSo _ H11.out.fa).mono ?_); rintro e w12 ⟨rfl, hM, hb⟩; have H12 := Lib.hid (H11.out.made hM hb); clear hM hb) | (go_at_call 51; (with_reducible refine ((mkholes_at (n : Int) n (n + 1) (Lib.hid rfl) (by omega) (by omega) (by decide) HTA (Lib.hid (trust_wf hn5 HKN.out)) (snT n op false) (rT n op false) (Lib.hid (fun pa cp => trust_reach hn5 ho HKN.out (ST_.all ho HSN.out))) (Lib.hid (fun pa cp => trust_sens hn5 ho HKN.out)) (fun j => decide (j = op) && false) (Lib.hid (fun pa cp j hj => trust_holes_n hn5 ho HKN.out false j hj)) (if false then 1 else 0) (Lib.hid (pick_one _ (by omega) _)) _ H12.out.fa)).mono ?_); rintro e w13 ⟨vb, vd, rfl, hr, hb⟩; have H13 := Lib.hid (H12.out.step hb); clear hr hb) | (go_at_call 51; (with_reducible refine ((mkholes_at (op : Int) op (n + 1) (Lib.hid rfl) (by omega) (by omega) (by decide) HTA (Lib.hid (trust_wf hn5 HKN.out)) (snT n op false) (rT n op false) (Lib.hid (fun pa cp => trust_reach hn5 ho HKN.out (ST_.all ho HSN.out))) (Lib.hid (fun pa cp => trust_sens hn5 ho HKN.out)) (fun j => decide (j = 1) && false) (Lib.hid (fun pa cp j hj => trust_holes_o hn5 ho HKN.out false j hj)) (if false then 1 else 0) (Lib.hid (pick_one _ (by omega) _)) _ H13.out.fa)).mono ?_); rintro e w14 ⟨ve, vf, rfl, hr, hb⟩; have H14 := Lib.hid (H13.out.step hb); clear hr hb))
            go_ret
            exact ⟨rfl, H14.out.bel⟩
          | true =>
            have HKM := Lib.hid (HKN.out.meter ho)
            have HR7 : Hid (rightB 7 0 0 0 0 = true) := Lib.hid (by decide)
            go_wp2_with (first
              | (go_at_call 45; (with_reducible refine (mkinstall_at vs vr (op : Int) 1 op 1 (Lib.hid ⟨rfl, rfl⟩) (by omega) (by decide) HTo HSo 7 0 0 0 0 HR7 _ (HE.out.below HV5.out.bel) HV5.out.fa).mono ?_); rintro e w7 ⟨rfl, hM, hb⟩; have HV7 := Lib.hid (HV5.out.made hM hb); clear hM hb)
              | (go_at_call 51; (with_reducible refine ((mkholes_at (n : Int) n (n + 1) (Lib.hid rfl) (by omega) (by omega) (by decide) HTA (Lib.hid (trust_wf hn5 HKM.out)) (snT n op true) (rT n op true) (Lib.hid (fun pa cp => trust_reach hn5 ho HKM.out HSN.out)) (Lib.hid (fun pa cp => trust_sens hn5 ho HKM.out)) (fun j => decide (j = op) && true) (Lib.hid (fun pa cp j hj => trust_holes_n hn5 ho HKM.out true j hj)) 1 (Lib.hid (pick_one _ (by omega) _)) _ HV7.out.fa)).mono ?_); rintro e w11 ⟨va, vc, rfl, hr, hb⟩; have H11 := Lib.hid (HV7.out.step hb); clear hr hb) | (go_at_call 46; (with_reducible refine (mkseal_at (op : Int) op (Lib.hid rfl) (by omega) HTo HSo _ H11.out.fa).mono ?_); rintro e w12 ⟨rfl, hM, hb⟩; have H12 := Lib.hid (H11.out.made hM hb); clear hM hb) | (go_at_call 51; (with_reducible refine ((mkholes_at (n : Int) n (n + 1) (Lib.hid rfl) (by omega) (by omega) (by decide) HTA (Lib.hid (trust_wf hn5 HKM.out)) (snT n op true) (rT n op true) (Lib.hid (fun pa cp => trust_reach hn5 ho HKM.out (ST_.all ho HSN.out))) (Lib.hid (fun pa cp => trust_sens hn5 ho HKM.out)) (fun j => decide (j = op) && true) (Lib.hid (fun pa cp j hj => trust_holes_n hn5 ho HKM.out true j hj)) (if true then 1 else 0) (Lib.hid (pick_one _ (by omega) _)) _ H12.out.fa)).mono ?_); rintro e w13 ⟨vb, vd, rfl, hr, hb⟩; have H13 := Lib.hid (H12.out.step hb); clear hr hb) | (go_at_call 51; (with_reducible refine ((mkholes_at (op : Int) op (n + 1) (Lib.hid rfl) (by omega) (by omega) (by decide) HTA (Lib.hid (trust_wf hn5 HKM.out)) (snT n op true) (rT n op true) (Lib.hid (fun pa cp => trust_reach hn5 ho HKM.out (ST_.all ho HSN.out))) (Lib.hid (fun pa cp => trust_sens hn5 ho HKM.out)) (fun j => decide (j = 1) && true) (Lib.hid (fun pa cp j hj => trust_holes_o hn5 ho HKM.out true j hj)) (if true then 1 else 0) (Lib.hid (pick_one _ (by omega) _)) _ H13.out.fa)).mono ?_); rintro e w14 ⟨ve, vf, rfl, hr, hb⟩; have H14 := Lib.hid (H13.out.step hb); clear hr hb))
            go_ret
            exact ⟨rfl, H14.out.bel⟩
theorem walk_MakerTrust (a0 : Int) (a1 : Int) (a2 : Bool) (w : World) (w0 : (Lit.int .i64 a0).wf = true) (w1 : (Lit.int .i64 a1).wf = true) (hL : laidMetH Tryd.prog Rows.makerTrustRow.laid w) :
    Calls Tryd.prog 8 #[.int .i64 a0, .int .i64 a1, .bool a2] w fun e w' => e = .returned (.bool true) ∧ Below w.heap.size w w' := by
  have hS := errs_are (gs := [4, 1]) hL (by
    intro n hn
    simp only [List.mem_cons, List.not_mem_nil, or_false] at hn
    rcases hn with rfl | rfl
    · exact ⟨"turnkey/api.ErrShape", _, by repeat (first | exact List.Mem.head _ | apply List.Mem.tail), gErrShape, tErrShape⟩
    · exact ⟨"turnkey/api.ErrRange", _, by repeat (first | exact List.Mem.head _ | apply List.Mem.tail), gErrRange, tErrRange⟩)
  have e0 := hS.1 4 (.head _)
  have e1 := hS.1 1 (.tail _ (.head _))
  clear hL hS
  obtain ⟨R, hR, CR⟩ := number_nat a0 5 5 rfl (by decide) (by decide) (fit64 w0).1 (fit64 w0).2
  obtain ⟨q, hq, CP⟩ := number_nat a1 ((R + 1 : Nat) : Int) (R + 1) rfl (by omega) (by omega) (fit64 w1).1 (fit64 w1).2
  exact trust_any a0 a1 a2 (R + 1) q R (Lib.hid rfl) hR hq (Lib.hid CR) (Lib.hid CP) _ _ w ⟨e0.1, e1.1, e0.2.1, e1.2.1⟩
end Go.Proofs.YtahhnfhnlffmpaaDoor
