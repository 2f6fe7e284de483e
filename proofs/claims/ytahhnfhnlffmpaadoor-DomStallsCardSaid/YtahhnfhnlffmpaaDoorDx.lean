/-
  DomStalls.
-/
import Derived.Test.YtahhnfhnlffmpaaDoorDw
namespace Go.Proofs.YtahhnfhnlffmpaaDoor.V
open Go.ChangeShapes Go.WideShapes Go.ChangeAt Go.RowKit Go.Maps
set_option linter.unusedVariables false
set_option linter.unusedSimpArgs false
theorem owns_shape {w : World} {B E s n : Nat} {v : Value} {xs : List Value} (h : w.ownsRow B E s v n xs) : ∃ a c, v = .slice a n c := by
  rcases h.2 with ⟨rfl, rfl⟩ | ⟨g, cap, cur, rfl, _⟩
  · exact ⟨none, 0, rfl⟩
  · exact ⟨_, cap, rfl⟩
theorem own_base {w : World} {B B' E s n : Nat} {v : Value} {xs : List Value} (h : w.ownsRow B E s v n xs) (hb : B' ≤ B) : w.ownsRow B' E s v n xs := by
  refine ⟨h.1, ?_⟩
  rcases h.2 with hn | ⟨g, cap, cur, e, hB, rest⟩
  · exact .inl hn
  · exact .inr ⟨g, cap, cur, e, by omega, rest⟩
/-- A row that grows, all else below as it was. -/
structure NxR (W w : World) (ys : List Int) (v : Value) : Prop where
  row : w.ownsRow W.heap.size 3 1 v ys.length (ys.map (Value.int .i64))
  bel : Below W.heap.size W w
theorem NxR.nil (W : World) : NxR W W [] (.slice none 0 0) := ⟨World.ownsRow_nil _ _ _ _, Below.refl _ _⟩
theorem NxR.more {W w w3 : World} {ys : List Int} {v v2 : Value} {ob : Obj} {n : Nat} (h : NxR W w ys v) (x : Int) (hn : ys.length = n) (hrow : w3.ownsRow W.heap.size 3 1 v2 (n + 1) (ys.map (Value.int .i64) ++ [.int .i64 x])) (hg : (w.alloc ob).grownBy w3 v.ownBlock) : NxR W w3 (ys ++ [x]) v2 := by
  refine ⟨by simpa [hn] using hrow, (h.bel.alloc h.bel.size ob).grown hg (by have := h.bel.size; simp; omega) (fun g hg => (h.row.lt g hg).1)⟩
theorem offI_snoc (l : List Int) (u y : Int) : offI (l ++ [u]) y = offI l y ++ (if u = y then [] else [u]) := by
  unfold offI
  rw [List.filter_append]
  congr 1
  by_cases e : u = y <;> simp [e]
theorem w64 (x : Int) : -9223372036854775808 ≤ wrap64 x ∧ wrap64 x ≤ 9223372036854775807 := by
  unfold wrap64
  omega
/-- .. and what they came to, the law's reckoning, too. -/
theorem LS.went {W0 w w' : World} {base P p B Q c base2 b b' F : Nat} {th : Nat → Bool} {vr_ : Nat → Int} {S S' : Nat → Nat → Prop} {f : Int → Int} {ord : List Int} {vo : Value} (h : LS W0 w base P p B Q c th vr_ base2 b F S f ord vo) (hv : DvAt w' base P p B Q 6 c th vr_ base2 b' (fun i => wt f ord (i : Int)) S') (hf : DFr w w' (QB Q 6 S) (QB Q 6 S')) : LS W0 w' base P p B Q c th vr_ base2 b' F S' f ord vo := by
  have ht := h.turn hv hf
  exact ⟨hv, ht.1, ht.2.1, ht.2.2.1, h.rk, h.fl, h.lo, ht.2.2.2⟩
/-- One waits: the law's reckoning follows. -/
structure LM (W0 w w2 : World) (base P p B Q c : Nat) (th : Nat → Bool) (vr_ : Nat → Int) (base2 b F : Nat) (S : Nat → Nat → Prop) (f : Int → Int) (ord : List Int) (vo : Value) (y a : Nat) : Prop where
  dv : DvAt w2 base P p B Q 6 c th vr_ base2 b (fun i => wt (updF f (y : Int) (a : Int)) (offI ord (y : Int) ++ [(y : Int)]) (i : Int)) S
  bel : Below W0.heap.size W0 w2
  of : ∀ j : Nat, j < 6 → w2.cell? ⟨F, j, none⟩ = some (.int .i64 (updF f (y : Int) (a : Int) (j : Int))) ∧ w2.frozen? ⟨F, j, none⟩ = false
  row : w2.ownsRow base2 3 1 vo ord.length (ord.map (Value.int .i64))
theorem LS.stall {W0 w w' : World} {base P p B Q c base2 b b' F : Nat} {th : Nat → Bool} {vr_ : Nat → Int} {S S' : Nat → Nat → Prop} {f : Int → Int} {ord : List Int} {vo : Value} (h : LS W0 w base P p B Q c th vr_ base2 b F S f ord vo) (y a : Nat) (hy : y < 6) (hv : DvAt w' base P p B Q 6 c th vr_ base2 b' (stallL (fun i => wt f ord (i : Int)) 6 a (y : Int)) S') (hf : DFr w w' (QB Q 6 S) (QB Q 6 S')) :
    LM W0 w (w'.setCell ⟨F, y, none⟩ (.int .i64 (a : Int))) base P p B Q c th vr_ base2 b' F S' f ord vo y a := by
  have ht := h.turn hv hf
  have hfl := h.fl
  have hnq : ¬ QB Q 6 S' F := by
    intro hs
    rcases hv.qs.lo F hs with e | e <;> omega
  have hb := hv.beside F y (.int .i64 (a : Int)) hfl.2.2.1 hfl.2.2.2.1 hfl.2.2.2.2 hnq
  refine ⟨⟨hb.f0, hb.f2, hb.ar, hb.qs.congr (fun i hi => stall_wt f ord (y : Int) a 6 i hi), hb.lt, hb.ne, hb.sz⟩, ?_, of_set ht.2.1 y hy a, ?_⟩
  · exact ht.1.grown (grown_cell w' F y _) ht.1.size (fun g hg => by injection hg with hg; have := h.lo; omega)
  · have hne : vo.ownBlock ≠ some F := fun e => by have := (ht.2.2.1.lt F e).1; omega
    exact ownsRow_setCell_other ht.2.2.1 (a := ⟨F, y, none⟩) hne _
theorem LM.done {W0 w w2 w3 : World} {base P p B Q c base2 b F : Nat} {th : Nat → Bool} {vr_ : Nat → Int} {S S' : Nat → Nat → Prop} {f : Int → Int} {ord : List Int} {vo vo2 : Value} {y a b0 : Nat} (h0 : LS W0 w base P p B Q c th vr_ base2 b0 F S' f ord vo) (h : LM W0 w w2 base P p B Q c th vr_ base2 b F S f ord vo y a) (hy : y < 6) (ha : a < 6) (hn : NxR w2 w3 (offI ord (y : Int) ++ [(y : Int)]) vo2) :
    LS W0 w3 base P p B Q c th vr_ base2 b F S (updF f (y : Int) (a : Int)) (offI ord (y : Int) ++ [(y : Int)]) vo2 := by
  have hs := h.dv.sz
  have hF : F < w2.heap.size := by have := h0.fl.1; omega
  have hQ := h.dv.lt.2.2.2
  refine ⟨h.dv.below hn.bel, h.bel.trans (hn.bel.mono h.bel.size), fun j hj => ⟨(hn.bel.cell (p := ⟨F, j, none⟩) hF).trans (h.of j hj).1, (hn.bel.frozen (p := ⟨F, j, none⟩) hF).trans (h.of j hj).2⟩, own_base hn.row hs, h0.rk.stall (y : Int) (a : Int) (by omega) (by omega) (by omega) (by omega), h0.fl, h0.lo, fun g hg hq => ?_⟩
  have h1 := (hn.row.lt g hg).1
  have h2 := h.dv.qs.hi (by omega) g hq
  omega
theorem wt_take (f : Int → Int) (ord : List Int) (a : Int) (j : Nat) (h : j < ord.length) : wt f (ord.take (j + 1)) a = wt f (ord.take j) a ++ (if f (ord.getD j 0) = a then [ord.getD j 0] else []) := by
  rw [take_succ' ord j h, wt_snoc]
theorem dv_bel {W0 w w' : World} {base P p B Q n c base2 b : Nat} {th : Nat → Bool} {vr_ : Nat → Int} {L : Nat → List Int} {S S' : Nat → Nat → Prop} (hb : Below W0.heap.size W0 w) (hv : DvAt w base P p B Q n c th vr_ base2 b L S) (hf : DFr w w' (QB Q n S) (QB Q n S')) (h1 : W0.heap.size ≤ Q) (h2 : W0.heap.size ≤ base2) : Below W0.heap.size W0 w' :=
  hb.trans (hf.below (fun k hk => by rcases hv.qs.lo k hk with e | e <;> omega) hb.size)
theorem RI.dfr {w w' : World} {a : Option Addr} {xs : List Int} {A A' : Nat → Prop} (h : RI w a xs) (hf : DFr w w' A A') (hn : ∀ ad, a = some ad → ¬ A ad.block) : RI w' a xs := by
  intro i hi
  obtain ⟨ad, h1, h2, h3⟩ := h i hi
  exact ⟨ad, h1, Nat.lt_of_lt_of_le h2 hf.size, (World.cell?_of_block (by rw [add_block']; exact (hf.block _ h2 (hn ad h1)).1)).trans h3⟩
theorem upd_nil (L : Nat → List Int) (i : Nat) : (updN L i [] i).length = 0 := by rw [updN_same]; rfl
theorem stalls_big (a0 : Option Addr) (len cap : Nat) (x : Int) (hl : 30 < len) (hm : len ≤ 9223372036854775807) (w : World) :
    Calls Tryd.prog 4 #[.slice a0 len cap, .int .i64 x] w fun e w' => e = .returned (.bool true) ∧ Below w.heap.size w w' := by
  have hd : decide ((30 : Int) < (len : Int)) = true := by simp; omega
  go_enter Tryd.func4, Tryd.ntmps4
  go_wp2_with (first
    | (go_at_call 23; (with_reducible refine (dfirst_is _).mono ?_); rintro e w1 ⟨rfl, hb1⟩; have HB1 := Lib.hid hb1; clear hb1))
  go_ret
  exact ⟨rfl, HB1.out⟩
set_option maxRecDepth 100000 in
set_option maxHeartbeats 8000000 in
theorem stalls_small (a0 : Option Addr) (len cap : Nat) (zs : List Int) (x : Int) (hx : wfI x) (hz : Hid (zs.length = len)) (hl : len ≤ 30) (w : World) (hr : RI w a0 zs) (hv : ∀ x ∈ zs, wfI x) :
    Calls Tryd.prog 4 #[.slice a0 len cap, .int .i64 x] w fun e w' => e = .returned (.bool true) ∧ Below w.heap.size w w' := by
  have hd : decide ((30 : Int) < (len : Int)) = false := by simp; omega
  have HR := Lib.hid hr
  have HV := Lib.hid hv
  obtain ⟨i0, hi, hz0, hz1, hz2⟩ := info_parts infoInt
  have HI := Lib.hid (⟨hi, hz0, hz1, hz2⟩ : Tryd.prog.info? 3 = some i0 ∧ i0.zero = some (.int .i64 0) ∧ i0.size = 1 ∧ i0.bytes = 8)
  obtain ⟨X, hX, CX⟩ := number_nat x 6 6 rfl (by decide) (by decide) hx.fit.1 hx.fit.2
  have CX' := Lib.hid CX
  clear hi hz0 hz1 hz2 CX hr hv
  go_enter Tryd.func4, Tryd.ntmps4
  go_wp2_with (first
    | (go_at_call 23; (with_reducible refine (dfirst_is _).mono ?_); rintro e w1 ⟨rfl, hb1⟩; have HB1 := Lib.hid hb1; clear hb1)
    | (go_at_call 24; (with_reducible refine (dnew_ok 6 6 (Lib.hid rfl) (by decide) (by decide) _).mono ?_); rintro e w2 ⟨P, p, B, G, Q, rfl, hD, hb⟩; have HD := Lib.hid hD; have HB := Lib.hid (HB1.out.trans (hb.mono HB1.out.size)); have HW := Lib.hid HB1.out.size; clear hD hb))
  obtain ⟨base, hbase⟩ : ∃ base, base = w1.heap.size := ⟨_, rfl⟩
  rw [← hbase] at HD HW
  clear hbase HB1
  go_loopw [8] (fun i wr => ∃ (k : Nat) (W : Nat → Nat → Value), k ≤ 6 ∧ i = .int .i64 k ∧ DsAt wr base P p B G Q 6 6 (thk k) (fun _ => 0) W ∧ Below w.heap.size w wr) (fun i _ => 6 - (intOf i).toNat)
  case atStart => exact ⟨0, _, by omega, rfl, by rw [thk_zero]; exact HD.out, HB.out⟩
  case round =>
    obtain ⟨k, W, hk, rfl, hD, hbl⟩ := hrel
    have HD := Lib.hid hD
    have HBL := Lib.hid hbl
    clear hD hbl
    by_cases hlt : k < 6
    · have k0 : (0 : Int) ≤ (k : Int) := by omega
      have k1 : (k : Int) < 6 := by omega
      go_wp2_with (first
        | (go_at_call 25; (with_reducible refine (dmake_ok k hlt (Lib.hid (thk_free k)) (Lib.hid (thk_taken k)) 0 (Lib.hid rfl) _ HD.out).mono ?_); rintro e w3 ⟨rfl, hD, hb⟩; rw [thk_succ] at hD; have HD3 := Lib.hid hD; have HB3 := Lib.hid (HBL.out.trans (hb.below (Nat.le_trans HW.out HD.out.pl.ar.lt.1) (Nat.le_trans HW.out HD.out.pl.gl.1) HBL.out.size)); clear hD hb))
      go_roundw
      case rel => exact ⟨k + 1, _, by omega, by go_num, HD3.out, HB3.out⟩
      case measure => simp [intOf]; omega
    · have hk6 : ¬ (k : Int) < 6 := by omega
      have HD6 : Hid (DsAt wr base P p B G Q 6 6 (thk 6) (fun _ => 0) W) := Lib.hid (by
        have h := HD.out
        rw [show k = 6 by omega] at h
        exact h)
      clear HD hlt hk
      have HD := HD6
      clear HD6
      have HS0 : Hid (LS w (wr.alloc (.cells #[.int .i64 (-1), .int .i64 (-1), .int .i64 (-1), .int .i64 (-1), .int .i64 (-1), .int .i64 (-1)] 3 (0, 0))) base P p B Q 6 (thk 6) (fun _ => 0) (wr.heap.size + 1) 0 wr.heap.size (fun _ => SN Q) (fun _ => -1) [] (.slice none 0 0)) := Lib.hid (LS.start HD.out HBL.out HW.out _ rfl)
      go_wp2_with fail
      obtain ⟨F, hF⟩ : ∃ F, F = wr.heap.size := ⟨_, rfl⟩
      obtain ⟨base2, hbase2⟩ : ∃ b, b = wr.heap.size + 1 := ⟨_, rfl⟩
      rw [← hbase2, ← hF] at HS0
      rw [← hF]
      clear hF hbase2 HB HBL hk6
      go_loopw [9, 11] (fun o i wr => ∃ (k m : Nat) (S : Nat → Nat → Prop) (f : Int → Int) (ord : List Int) (ao : Option Addr) (co : Nat), k ≤ len ∧ i = .int .i64 k ∧ m ≤ k ∧ ord.length = m ∧ o = .slice ao m co ∧ LS w wr base P p B Q 6 (thk 6) (fun _ => 0) base2 k F S f ord (.slice ao m co)) (fun _ i _ => len - (intOf i).toNat)
      case atStart => exact ⟨0, 0, _, _, [], none, 0, by omega, rfl, by omega, rfl, rfl, HS0.out⟩
      case round =>
        obtain ⟨k, m, S, f, ord, ao, co, hk2, rfl, hmk, hord, rfl, hS⟩ := hrel
        have HS := Lib.hid hS
        have HN := Lib.hid hord
        clear hS hord
        by_cases hlt2 : k < len
        · have hkz : k < zs.length := by rw [hz.out]; exact hlt2
          obtain ⟨ad, rfl, hb1, cz⟩ := (HR.out.below HS.out.bel) k hkz
          have hzw : wfI (zs.getD k 0) := HV.out _ (by simp [List.getD, hkz])
          generalize zs.getD k 0 = z at cz hzw
          have k0 : (0 : Int) ≤ (k : Int) := by omega
          have k1 : (k : Int) < (len : Int) := by omega
          obtain ⟨A, hA, CA⟩ := number_nat z 6 6 rfl (by decide) (by decide) hzw.fit.1 hzw.fit.2
          have CA' := Lib.hid CA
          clear CA hb1 hkz
          go_upto_region 19 with (first
            | (go_at_call 26; (with_reducible refine (CA'.out _).mono ?_); rintro e w4 ⟨rfl, rfl⟩))
          obtain ⟨Y, hY, CY⟩ := number_nat (wrap64 (z.tdiv 6)) 6 6 rfl (by decide) (by decide) (w64 _).1 (w64 _).2
          have CY' := Lib.hid CY
          clear CY CA'
          go_upto_region 20 with (first
            | (go_at_call 26; (with_reducible refine (CY'.out _).mono ?_); rintro e w5 ⟨rfl, rfl⟩))
          have y0 : (0 : Int) ≤ (Y : Int) := by omega
          have y1 : (Y : Int) < 6 := by omega
          have hof := HS.out.of Y hY
          have HD1 := Lib.hid (HS.out.below (Below.refl wr.heap.size wr).drew)
          by_cases hfy : f (Y : Int) = (A : Int)
          · have HST : Hid (Calls Tryd.prog 27 #[.pointer (some ⟨P, 0, none⟩), .int .i64 (A : Int), .int .i64 (Y : Int)] wr.drew fun e w' => e = .returned (.bool false) ∧ (∃ S', LS w w' base P p B Q 6 (thk 6) (fun _ => 0) base2 (k + 1) F S' f ord (.slice ao m co)) ∧ w'.cell? ⟨F, Y, none⟩ = some (.int .i64 (A : Int))) := Lib.hid (by
              have hL : Hid ((wt f ord (A : Int)).contains (Y : Int) = true) := Lib.hid (by rw [HS.out.rk.has (A : Int) (Y : Int) (by omega) y0 y1, hfy]; simp)
              refine (dv_stall A Y hA hY (Lib.hid (by simp [thk, hA])) (Lib.hid (by simp [thk, hY])) true hL (by omega) (fun i _ => Nat.le_trans (List.length_filter_le _ _) (by rw [HN.out]; omega)) _ HD1.out.dv).mono fun e w' ⟨S', he, hv, hf⟩ => ?_
              have hw := HD1.out.went hv hf
              exact ⟨he, ⟨S', hw⟩, by rw [(hw.of Y hY).1, hfy]⟩)
            have HC : Hid (wr.drew.cell? ⟨F, Y, none⟩ = some (.int .i64 (A : Int))) := Lib.hid (by rw [(HD1.out.of Y hY).1, hfy])
            clear hof
            have hne : ((A : Int) != (A : Int)) = false := by simp
            go_region_held3 (fun w' => w'.cell? ⟨F, Y, none⟩ = some (.int .i64 (A : Int))) (first | exact HC.out | assumption)
              (first | (go_at_call 27; refine HST.out.mono ?_; rintro e w6 ⟨rfl, hex, hc6⟩))
            obtain ⟨S6, hS6⟩ := hex
            have HS6 := Lib.hid hS6
            clear hS6
            go_wp2_with fail
            go_roundw
            case rel => exact ⟨k + 1, m, S6, f, ord, ao, co, by omega, by go_num, by omega, HN.out, rfl, HS6.out⟩
            case measure => simp [intOf]; omega
          · have HST : Hid (Calls Tryd.prog 27 #[.pointer (some ⟨P, 0, none⟩), .int .i64 (A : Int), .int .i64 (Y : Int)] wr.drew fun e w' => e = .returned (.bool true) ∧ (∃ S', LM w wr.drew (w'.setCell ⟨F, Y, none⟩ (.int .i64 (A : Int))) base P p B Q 6 (thk 6) (fun _ => 0) base2 (k + 1) F S' f ord (.slice ao m co) Y A) ∧ w'.cell? ⟨F, Y, none⟩ = some (.int .i64 (f (Y : Int))) ∧ w'.frozen? ⟨F, Y, none⟩ = false) := Lib.hid (by
              have hL : Hid ((wt f ord (A : Int)).contains (Y : Int) = false) := Lib.hid (by rw [HS.out.rk.has (A : Int) (Y : Int) (by omega) y0 y1]; simp [hfy])
              refine (dv_stall A Y hA hY (Lib.hid (by simp [thk, hA])) (Lib.hid (by simp [thk, hY])) false hL (by omega) (fun i _ => Nat.le_trans (List.length_filter_le _ _) (by rw [HN.out]; omega)) _ HD1.out.dv).mono fun e w' ⟨S', he, hv, hf⟩ => ?_
              rw [if_neg (by simp)] at hv
              have hw := HD1.out.turn hv hf
              exact ⟨he, ⟨S', HD1.out.stall Y A hY hv hf⟩, (hw.2.1 Y hY).1, (hw.2.1 Y hY).2⟩)
            have HC : Hid (wr.drew.cell? ⟨F, Y, none⟩ = some (.int .i64 (f (Y : Int)))) := Lib.hid (HD1.out.of Y hY).1
            clear hof
            have hne : (f (Y : Int) != (A : Int)) = true := by simp [hfy]
            generalize f (Y : Int) = fy at HC HST hne
            clear hfy
            go_region_held3 (fun w' => w'.cell? ⟨F, Y, none⟩ = some (.int .i64 fy)) (first | exact HC.out | assumption)
              (first | (go_at_call 27; refine HST.out.mono ?_; rintro e w6 ⟨rfl, hex, hc6, hf6⟩))
            obtain ⟨S6, hS6⟩ := hex
            have HS6 := Lib.hid hS6
            clear hS6
            go_upto_region 24 with fail
            obtain ⟨w7, hw7⟩ : ∃ w7, w7 = w6.setCell ⟨F, Y, none⟩ (.int .i64 (A : Int)) := ⟨_, rfl⟩
            rw [← hw7] at HS6 ⊢
            clear hw7 hc6 hf6 HST HC
            go_wp2_with fail
            go_loopw [14, 15] (fun nx kk wt => ∃ j : Nat, j ≤ m ∧ kk = .int .i64 j ∧ NxR w7 wt (offI (ord.take j) (Y : Int)) nx) (fun _ kk _ => m - (intOf kk).toNat)
            case atStart => exact ⟨0, by omega, rfl, NxR.nil w7⟩
            case round =>
              obtain ⟨j, hj, rfl, hX⟩ := hrel
              have HX := Lib.hid hX
              obtain ⟨n, HL⟩ : ∃ n, Hid ((offI (ord.take j) (Y : Int)).length = n) := ⟨_, Lib.hid rfl⟩
              have hrw := hX.row
              rw [HL.out] at hrw
              have HW2 := Lib.hid hrw
              have hn1 : n ≤ 1000 := by
                rw [← HL.out]
                refine Nat.le_trans (List.length_filter_le _ _) (Nat.le_trans (List.length_take_le _ _) (by omega))
              clear hX hrw
              by_cases hlt3 : j < m
              · have hjo : j < ord.length := by rw [HN.out]; exact hlt3
                obtain ⟨g, c2, hv2⟩ := owns_slice (own_below HS6.out.row HX.out.bel) (by rw [HN.out]; omega)
                have hro := own_below HS6.out.row HX.out.bel
                rw [HN.out] at hro hv2
                injection hv2 with e1 e2 e3
                subst e1
                have co : wr.cell? ⟨g, j, none⟩ = some (.int .i64 (ord.getD j 0)) := by
                  rw [hro.cellAt j (by omega)]
                  simp [List.getD, hjo]
                have hul := HS.out.rk.lo (ord.getD j 0) (by simp [List.getD, hjo])
                have E1 : Hid (offI (ord.take (j + 1)) (Y : Int) = offI (ord.take j) (Y : Int) ++ (if ord.getD j 0 = (Y : Int) then [] else [ord.getD j 0])) := Lib.hid (by rw [take_succ' ord j hjo, offI_snoc])
                generalize ord.getD j 0 = u at co hul E1
                have j0 : (0 : Int) ≤ (j : Int) := by omega
                have j1 : (j : Int) < (m : Int) := by omega
                clear hro e2 e3 hjo
                by_cases huy : u = (Y : Int)
                · have hne2 : (u != (Y : Int)) = false := by simp [huy]
                  have E2 : Hid (offI (ord.take (j + 1)) (Y : Int) = offI (ord.take j) (Y : Int)) := Lib.hid (by rw [E1.out, if_pos huy, List.append_nil])
                  clear huy
                  go_wp2_with fail
                  go_roundw
                  case rel => exact ⟨j + 1, by omega, by go_num, by rw [E2.out]; exact HX.out⟩
                  case measure => simp [intOf]; omega
                · have hne2 : (u != (Y : Int)) = true := by simp [huy]
                  have E2 : Hid (offI (ord.take (j + 1)) (Y : Int) = offI (ord.take j) (Y : Int) ++ [u]) := Lib.hid (by rw [E1.out, if_neg huy])
                  clear huy
                  go_wp2_with (first | (at_builtin; refine wpList_append_own_at _ rfl _ _ 56 rfl w7.heap.size 3 i0 (.int .i64 0) 1 8 Tryd.underlying56 HI.out.1 HI.out.2.1 HI.out.2.2.1 HI.out.2.2.2 rfl (by decide) _ n _ rfl (HW2.out.alloc _) ⟨wr.heap.size, 0, none⟩ 1 1 [.int .i64 u] rfl rfl (cell_one_new _ _ _) (ints_oneCell .i64 [u]) (by unfold maxLen; omega) (by omega) (by have := HX.out.bel.size; simp; omega) ?_; intro v2 w3 hrow hg3 hnil hloc; have HX3 := Lib.hid (HX.out.more u HL.out hrow hg3); clear hrow hg3 hnil hloc))
                  go_roundw
                  case rel => exact ⟨j + 1, by omega, by go_num, by rw [E2.out]; exact HX3.out⟩
                  case measure => simp [intOf]; omega
              · obtain rfl : m = j := by omega
                have hdd : decide (m < m) = false := by simp
                have HY2 : Hid (offI (ord.take m) (Y : Int) = offI ord (Y : Int)) := Lib.hid (by rw [List.take_of_length_le (by rw [HN.out]; exact Nat.le_refl _)])
                go_wp2_with (first | (at_builtin; refine wpList_append_own_at _ rfl _ _ 56 rfl w7.heap.size 3 i0 (.int .i64 0) 1 8 Tryd.underlying56 HI.out.1 HI.out.2.1 HI.out.2.2.1 HI.out.2.2.2 rfl (by decide) _ n _ rfl (HW2.out.alloc _) ⟨wr.heap.size, 0, none⟩ 1 1 [.int .i64 (Y : Int)] rfl rfl (cell_one_new _ _ _) (ints_oneCell .i64 [(Y : Int)]) (by unfold maxLen; omega) (by omega) (by have := HX.out.bel.size; simp; omega) ?_; intro v2 w3 hrow hg3 hnil hloc; have HX3 := Lib.hid (HX.out.more (Y : Int) HL.out hrow hg3); clear hrow hg3 hnil hloc))
                go_roundw
                case rel =>
                  have hx := HX3.out
                  rw [HY2.out] at hx
                  obtain ⟨a3, c3, hv3⟩ := owns_shape hx.row
                  have hle : (offI ord (Y : Int) ++ [(Y : Int)]).length ≤ k + 1 := by
                    rw [List.length_append, List.length_singleton]
                    have h1 : (offI ord (Y : Int)).length ≤ ord.length := List.length_filter_le _ _
                    have h2 := HN.out
                    omega
                  have hx4 := LM.done HD1.out HS6.out hY hA hx
                  rw [hv3] at hx4
                  exact ⟨k + 1, _, S6, _, _, a3, c3, by omega, by go_num, hle, rfl, hv3, hx4⟩
                case measure => simp [intOf]; omega
        · obtain ⟨w8, hw8⟩ : ∃ w8, w8 = wr := ⟨_, rfl⟩
          subst hw8
          obtain rfl : len = k := by omega
          have hdl : decide (len < len) = false := by simp
          go_wp2_with (first
            | (go_at_call 26; (with_reducible refine (CX'.out _).mono ?_); rintro e w5 ⟨rfl, rfl⟩))
          go_loopw [16, 17] (fun nx kk ww => ∃ (j n : Nat) (an : Option Addr) (cn : Nat), j ≤ m ∧ kk = .int .i64 j ∧ (wt f (ord.take j) (X : Int)).length = n ∧ nx = .slice an n cn ∧ NxR w8 ww (wt f (ord.take j) (X : Int)) (.slice an n cn)) (fun _ kk _ => m - (intOf kk).toNat)
          case atStart => exact ⟨0, 0, none, 0, by omega, rfl, rfl, rfl, NxR.nil _⟩
          case round =>
            obtain ⟨j, n, an, cn, hj, rfl, hln, rfl, hX⟩ := hrel
            have HX := Lib.hid hX
            have HL := Lib.hid hln
            have hrw := hX.row
            rw [HL.out] at hrw
            have HW2 := Lib.hid hrw
            have hn1 : n ≤ 1000 := by
              rw [← HL.out]
              refine Nat.le_trans (List.length_filter_le _ _) (Nat.le_trans (List.length_take_le _ _) (by omega))
            have HS9 := Lib.hid (HS.out.below hX.bel)
            clear hX hrw hln
            by_cases hlt3 : j < m
            · have hjo : j < ord.length := by rw [HN.out]; exact hlt3
              obtain ⟨g, c2, hv2⟩ := owns_slice HS9.out.row (by rw [HN.out]; omega)
              have hro := HS9.out.row
              rw [HN.out] at hro hv2
              injection hv2 with e1 e2 e3
              subst e1
              have co : wr.cell? ⟨g, j, none⟩ = some (.int .i64 (ord.getD j 0)) := by
                rw [hro.cellAt j (by omega)]
                simp [List.getD, hjo]
              have hul := HS.out.rk.lo (ord.getD j 0) (by simp [List.getD, hjo])
              have E1 : Hid (wt f (ord.take (j + 1)) (X : Int) = wt f (ord.take j) (X : Int) ++ (if f (ord.getD j 0) = (X : Int) then [ord.getD j 0] else [])) := Lib.hid (wt_take f ord (X : Int) j hjo)
              obtain ⟨U, hU⟩ : ∃ U : Nat, ord.getD j 0 = (U : Int) := ⟨(ord.getD j 0).toNat, by omega⟩
              rw [hU] at co hul E1
              have U0 : (0 : Int) ≤ (U : Int) := by omega
              have U1 : (U : Int) < 6 := by omega
              have hof := (HS9.out.of U (by omega)).1
              have j0 : (0 : Int) ≤ (j : Int) := by omega
              have j1 : (j : Int) < (m : Int) := by omega
              clear hro e2 e3 hjo hU hul
              by_cases hfx : f (U : Int) = (X : Int)
              · rw [hfx] at hof
                have E2 : Hid (wt f (ord.take (j + 1)) (X : Int) = wt f (ord.take j) (X : Int) ++ [(U : Int)]) := Lib.hid (by rw [E1.out, if_pos hfx])
                clear hfx E1
                go_wp2_with (first | (at_builtin; refine wpList_append_own_at _ rfl _ _ 56 rfl w8.heap.size 3 i0 (.int .i64 0) 1 8 Tryd.underlying56 HI.out.1 HI.out.2.1 HI.out.2.2.1 HI.out.2.2.2 rfl (by decide) _ n _ rfl (HW2.out.alloc _) ⟨wr.heap.size, 0, none⟩ 1 1 [.int .i64 (U : Int)] rfl rfl (cell_one_new _ _ _) (ints_oneCell .i64 [(U : Int)]) (by unfold maxLen; omega) (by omega) (by have := HX.out.bel.size; simp; omega) ?_; intro v2 w3 hrow hg3 hnil hloc; have HX3 := Lib.hid (HX.out.more (U : Int) HL.out hrow hg3); clear hrow hg3 hnil hloc))
                go_roundw
                case rel =>
                  have hx := HX3.out
                  obtain ⟨a3, c3, hv3⟩ := owns_shape hx.row
                  rw [hv3] at hx
                  exact ⟨j + 1, _, a3, c3, by omega, by go_num, rfl, by rw [hv3, E2.out], by rw [E2.out]; exact hx⟩
                case measure => simp [intOf]; omega
              · have E2 : Hid (wt f (ord.take (j + 1)) (X : Int) = wt f (ord.take j) (X : Int)) := Lib.hid (by rw [E1.out, if_neg hfx, List.append_nil])
                have hne : (f (U : Int) == (X : Int)) = false := by simp [hfx]
                generalize f (U : Int) = fu at hof hne
                clear hfx E1
                go_wp2_with fail
                go_roundw
                case rel => exact ⟨j + 1, n, an, cn, by omega, by go_num, by rw [E2.out]; exact HL.out, rfl, by rw [E2.out]; exact HX.out⟩
                case measure => simp [intOf]; omega
            · obtain rfl : m = j := by omega
              have hdd : decide (m < m) = false := by simp
              have HT : Hid (ord.take m = ord) := Lib.hid (List.take_of_length_le (by rw [HN.out]; exact Nat.le_refl _))
              have hl0 := HL.out
              rw [HT.out] at hl0
              have HL0 : Hid (((fun i : Nat => wt f ord (i : Int)) X).length = n) := Lib.hid hl0
              rw [HT.out] at HW2
              have HRI := Lib.hid (own_ri HW2.out hl0)
              clear hl0 HX HL HI
              have hnq : ∀ ad, an = some ad → ¬ QB Q 6 S ad.block := fun ad e hq => by
                have h1 := (HW2.out.lt ad.block (by rw [e]; rfl)).1
                have h2 := HS.out.dv.qs.hi (by have := HS.out.dv.lt.2.2.2; have := HS.out.dv.sz; omega) ad.block hq
                omega
              have HNQ := Lib.hid hnq
              have htx : Hid (thk 6 X = true) := Lib.hid (by simp [thk, hX])
              have hlo1 := HS.out.lo.2
              have hlo2 : w.heap.size ≤ base2 := by have := HS.out.lo.1; have := HS.out.fl.1; omega
              clear hnq
              go_wp2_with (first
                | (go_at_call 29; (with_reducible refine (dv_callers X n hX htx HL0 hn1 _ HS9.out.dv).mono ?_); rintro e w9 ⟨a9, c9, rfl, hr9, hb9⟩; have HR9 := Lib.hid (own_ri hr9 HL0.out); have HSA := Lib.hid (HS9.out.below hb9); have HRA := Lib.hid (HRI.out.below hb9); clear hr9 hb9)
                | (go_at_call 28; (with_reducible refine (sameints_yes a9 an c9 cn n _ HL0 (by omega) _ HR9.out HRA.out).mono ?_); rintro e w10 ⟨rfl, hb10⟩; have HSB := Lib.hid (HSA.out.below hb10); have HRB := Lib.hid (HRA.out.below hb10); clear hb10)
                | (go_at_call 30; (with_reducible refine (dv_wake X n hX htx HL0 hn1 _ HSB.out.dv).mono ?_); rintro e w11 ⟨a11, c11, S11, rfl, hr11, hv11, hf11⟩; have HR11 := Lib.hid (own_ri hr11 HL0.out); have HRC := Lib.hid (HRB.out.dfr hf11 HNQ.out); have HBC := Lib.hid (dv_bel HSB.out.bel HSB.out.dv hf11 hlo1 hlo2); have HVC := Lib.hid hv11; clear hr11 hv11 hf11)
                | (go_at_call 28; (with_reducible refine (sameints_yes a11 an c11 cn n _ HL0 (by omega) _ HR11.out HRC.out).mono ?_); rintro e w12 ⟨rfl, hb12⟩; have HVD := Lib.hid (HVC.out.below hb12); have HBD := Lib.hid (HBC.out.trans (hb12.mono HBC.out.size)); clear hb12)
                | (go_at_call 30; (with_reducible refine (dv_wake X 0 hX htx (Lib.hid (upd_nil _ X)) (by omega) _ HVD.out).mono ?_); rintro e w13 ⟨a13, c13, S13, rfl, hr13, hv13, hf13⟩; have HBE := Lib.hid (dv_bel HBD.out HVD.out hf13 hlo1 hlo2); have HVE := Lib.hid hv13; clear hr13 hv13 hf13)
                | (go_at_call 29; (with_reducible refine (dv_callers X 0 hX htx (Lib.hid (upd_nil _ X)) (by omega) _ HVE.out).mono ?_); rintro e w14 ⟨a14, c14, rfl, hr14, hb14⟩; have HBF := Lib.hid (HBE.out.trans (hb14.mono HBE.out.size)); clear hr14 hb14))
              go_ret
              exact ⟨rfl, HBF.out⟩
theorem stalls_any (a0 : Option Addr) (len0 cap0 : Nat) (z0 : List Int) (a1 : Int) (w : World) (w0 : IsRow .i64 w a0 len0 cap0 z0) (w1 : (Lit.int .i64 a1).wf = true) :
    Calls Tryd.prog 4 #[.slice a0 len0 cap0, .int .i64 a1] w fun e w' => e = .returned (.bool true) ∧ Below w.heap.size w w' := by
  obtain ⟨xs, h1, h2, h3, h4⟩ := ri_arg w0
  by_cases hl : 30 < len0
  · exact stalls_big a0 len0 cap0 a1 hl h4 w
  · exact stalls_small a0 len0 cap0 xs a1 w1 (Lib.hid h1) (by omega) w h2 h3
end Go.Proofs.YtahhnfhnlffmpaaDoor.V
namespace Go.Proofs.YtahhnfhnlffmpaaDoor
open Go.ChangeShapes Go.WideShapes Go.ChangeAt Go.RowKit
set_option linter.unusedVariables false
theorem walk_DomStalls (a0 : Option Addr) (len0 cap0 : Nat) (z0 : List Int) (a1 : Int) (w : World) (w0 : IsRow .i64 w a0 len0 cap0 z0) (w1 : (Lit.int .i64 a1).wf = true) (hL : laidMetH Tryd.prog Rows.domStallsRow.laid w) :
    Calls Tryd.prog 4 #[.slice a0 len0 cap0, .int .i64 a1] w fun e w' => e = .returned (.bool true) ∧ Below w.heap.size w w' := V.stalls_any a0 len0 cap0 z0 a1 w w0 w1
end Go.Proofs.YtahhnfhnlffmpaaDoor
