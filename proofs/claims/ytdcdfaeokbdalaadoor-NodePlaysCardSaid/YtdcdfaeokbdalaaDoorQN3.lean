/-
  Nt: what NodePlays reaches of them.
-/
import Derived.Test.YtdcdfaeokbdalaaDoorQN2
namespace Go.Proofs.YtdcdfaeokbdalaaDoor
open Go.ChangeShapes Go.WideShapes Go.ChangeAt Go.RowKit
set_option linter.unusedVariables false
theorem infoB1 : (Tryd.prog.info? 4).map (fun i => (i.zero, i.size, i.bytes)) = some (some (.bool false), 1, 1) := by kernel_rfl
theorem nz_any (n : Nat) : (fun _ b => zc b : Nat → Nat → Value) = kW (fun _ _ _ => 0) := by funext i b; exact zc_kval b
theorem NZ.khc {W0 w : World} {base P p B G c L H : Nat} {th tl : Nat → Bool} {vr : Nat → Int} {kk kh kh' : Nat → Nat → Nat → Int} (h : NZ W0 w base P p B G c L H th vr kk tl kh) (e : kW kh = kW kh') : NZ W0 w base P p B G c L H th vr kk tl kh' := ⟨h.nv, h.lv, by rw [← e]; exact h.hv, h.lo⟩
/-- The key that Get tells. -/
def gK (kk : Nat → Nat → Nat → Int) (id sl : Int) (t : Bool) (q : Nat) : Int := if t = true then kk id.toNat sl.toNat q else 0
theorem nget_any {base P p B G n c : Nat} {th : Nat → Bool} {vr_ : Nat → Int} {kk : Nat → Nat → Nat → Int} (id sl : Int) (t : Bool) (ht : Hid ((thereB n th id && decide (0 ≤ sl ∧ sl < 16)) = t)) (g0 g1 g2 g3 g4 : Int) (hg : Hid (gK kk id sl t 0 = g0 ∧ gK kk id sl t 1 = g1 ∧ gK kk id sl t 2 = g2 ∧ gK kk id sl t 3 = g3 ∧ gK kk id sl t 4 = g4)) (w : World) (h : NdAt w base P p B G n c th vr_ (kW kk)) :
    Calls Tryd.prog 53 #[.pointer (some ⟨P, 0, none⟩), .int .i64 id, .int .i64 sl] w fun e w' => e = .returned (.tuple #[Value.agg #[.int .i64 g0, .int .i64 g1, .int .i64 g2, .int .i64 g3, .int .u32 g4], .bool t]) ∧ Below w.heap.size w w' := by
  obtain ⟨h0, h1, h2, h3, h4⟩ := hg.out
  cases t
  · have e := fun q => (show gK kk id sl false q = 0 from rfl)
    rw [e] at h0 h1 h2 h3 h4
    rw [← h0, ← h1, ← h2, ← h3, ← h4]
    exact nget_no id sl ht w h
  · have hb := ht.out
    rw [Bool.and_eq_true, decide_eq_true_eq] at hb
    obtain ⟨k, rfl, hk, hkt⟩ := there_nat hb.1
    obtain ⟨s, rfl⟩ : ∃ s : Nat, sl = s := ⟨sl.toNat, by omega⟩
    have e := fun q => (show gK kk (k : Int) (s : Int) true q = kk k s q from rfl)
    rw [e] at h0 h1 h2 h3 h4
    rw [← h0, ← h1, ← h2, ← h3, ← h4]
    exact nget_is k s hk (by omega) (Lib.hid hkt) _ _ _ _ _ (kW_q kk k s 0 (by decide)) (kW_q kk k s 1 (by decide)) (kW_q kk k s 2 (by decide)) (kW_q kk k s 3 (by decide)) (kW_q kk k s 4 (by decide)) w h
theorem infoSlotsS : (Tryd.prog.info? 37).map (·.size) = some zs80.toArray.size := by kernel_rfl
theorem zs80_all : zs80.toArray.all (·.oneCell') = true := by kernel_rfl
set_option maxRecDepth 100000 in
theorem nplays_big (a : Option Addr) (len cap : Nat) (id sl : Int) (hl : 60 < len) (vs vr : Value) (w : World) (hE : ErrsAt vs vr w) :
    Calls Tryd.prog 5 #[.slice a len cap, .int .i64 id, .int .i64 sl] w fun e w' => e = .returned (.bool true) ∧ Below w.heap.size w w' := by
  have hd : decide ((60 : Int) < (len : Int)) = true := by simp; omega
  go_enter Tryd.func5, Tryd.ntmps5
  go_wp2_with (first
    | (go_at_call 46; refine (nfirst_is vs vr _ hE).mono ?_; rintro e w1 ⟨rfl, hb1⟩; have HB1 := Lib.hid hb1; clear hb1)
    | (go_at_call 47; (with_reducible refine (nnew_ok 5 5 (Lib.hid rfl) (by decide) (by decide) _).mono ?_); rintro e w2 ⟨P, p, B, G, rfl, hP, hb⟩; have HB2 := Lib.hid (HB1.out.trans (hb.mono HB1.out.size)); clear hP hb))
  go_ret
  exact ⟨rfl, HB2.out⟩
theorem n64_keep {w11 W W' : World} {P p KG H i j : Nat} {g0 g1 g2 g3 g4 : Int} (HSA : Hid (∀ W, Below w11.heap.size w11 W → (Below w11.heap.size w11 W ∧ World.cell? W ⟨P, 0, none⟩ = some (.pointer (some ⟨p, 0, none⟩)) ∧ World.cell? W ⟨KG, 0, none⟩ = some (.int .i64 g0) ∧ World.cell? W ⟨KG, 1, none⟩ = some (.int .i64 g1) ∧ World.cell? W ⟨KG, 2, none⟩ = some (.int .i64 g2) ∧ World.cell? W ⟨KG, 3, none⟩ = some (.int .i64 g3) ∧ World.cell? W ⟨KG, 4, none⟩ = some (.int .u32 g4) ∧ World.cell? W ⟨H, i * 80 + j * 5, none⟩ = some (.int .i64 g0) ∧ World.cell? W ⟨H, i * 80 + j * 5 + 1, none⟩ = some (.int .i64 g1) ∧ World.cell? W ⟨H, i * 80 + j * 5 + 2, none⟩ = some (.int .i64 g2) ∧ World.cell? W ⟨H, i * 80 + j * 5 + 3, none⟩ = some (.int .i64 g3) ∧ World.cell? W ⟨H, i * 80 + j * 5 + 4, none⟩ = some (.int .u32 g4)))) (h : (Below w11.heap.size w11 W ∧ World.cell? W ⟨P, 0, none⟩ = some (.pointer (some ⟨p, 0, none⟩)) ∧ World.cell? W ⟨KG, 0, none⟩ = some (.int .i64 g0) ∧ World.cell? W ⟨KG, 1, none⟩ = some (.int .i64 g1) ∧ World.cell? W ⟨KG, 2, none⟩ = some (.int .i64 g2) ∧ World.cell? W ⟨KG, 3, none⟩ = some (.int .i64 g3) ∧ World.cell? W ⟨KG, 4, none⟩ = some (.int .u32 g4) ∧ World.cell? W ⟨H, i * 80 + j * 5, none⟩ = some (.int .i64 g0) ∧ World.cell? W ⟨H, i * 80 + j * 5 + 1, none⟩ = some (.int .i64 g1) ∧ World.cell? W ⟨H, i * 80 + j * 5 + 2, none⟩ = some (.int .i64 g2) ∧ World.cell? W ⟨H, i * 80 + j * 5 + 3, none⟩ = some (.int .i64 g3) ∧ World.cell? W ⟨H, i * 80 + j * 5 + 4, none⟩ = some (.int .u32 g4))) (hb : Below W.heap.size W W') : (Below w11.heap.size w11 W' ∧ World.cell? W' ⟨P, 0, none⟩ = some (.pointer (some ⟨p, 0, none⟩)) ∧ World.cell? W' ⟨KG, 0, none⟩ = some (.int .i64 g0) ∧ World.cell? W' ⟨KG, 1, none⟩ = some (.int .i64 g1) ∧ World.cell? W' ⟨KG, 2, none⟩ = some (.int .i64 g2) ∧ World.cell? W' ⟨KG, 3, none⟩ = some (.int .i64 g3) ∧ World.cell? W' ⟨KG, 4, none⟩ = some (.int .u32 g4) ∧ World.cell? W' ⟨H, i * 80 + j * 5, none⟩ = some (.int .i64 g0) ∧ World.cell? W' ⟨H, i * 80 + j * 5 + 1, none⟩ = some (.int .i64 g1) ∧ World.cell? W' ⟨H, i * 80 + j * 5 + 2, none⟩ = some (.int .i64 g2) ∧ World.cell? W' ⟨H, i * 80 + j * 5 + 3, none⟩ = some (.int .i64 g3) ∧ World.cell? W' ⟨H, i * 80 + j * 5 + 4, none⟩ = some (.int .u32 g4)) := HSA.out _ (h.1.trans (hb.mono h.1.size))
set_option maxRecDepth 100000 in
set_option maxHeartbeats 16000000 in
theorem nplays_small (a : Option Addr) (len cap : Nat) (id sl : Int) (hl : len ≤ 60) (w : World) (hr : Reads Tryd.prog w 105 [.slice a len cap]) (A : Nat → Addr) (hS : Sen A w) :
    Calls Tryd.prog 5 #[.slice a len cap, .int .i64 id, .int .i64 sl] w fun e w' => e = .returned (.bool true) ∧ Below w.heap.size w w' := by
  have hd : decide ((60 : Int) < (len : Int)) = false := by simp; omega
  have HR := Lib.hid hr
  have HS := Lib.hid hS
  obtain ⟨i1, hi, hz0, hz1, hz2⟩ := info_parts infoB1
  have HJ := Lib.hid (⟨hi, hz0, hz1, hz2⟩ : Tryd.prog.info? 4 = some i1 ∧ i1.zero = some (.bool false) ∧ i1.size = 1 ∧ i1.bytes = 1)
  clear hi hz0 hz1 hz2 hr hS
  go_enter Tryd.func5, Tryd.ntmps5
  go_wp2_with (first
    | (go_at_call 46; refine (nfirst_is (eV (sA A 1)) (eV (sA A 2)) _ HS.out.errs).mono ?_; rintro e w1 ⟨rfl, hb1⟩; have HB1 := Lib.hid hb1; clear hb1)
    | (go_at_call 47; (with_reducible refine (nnew_ok 5 5 (Lib.hid rfl) (by decide) (by decide) _).mono ?_); rintro e w2 ⟨P, p, B, G, rfl, hP, hb⟩; have HV : Hid (NV w w2 w1.heap.size P p B G 5 5 (fun _ => false) (fun _ => 0) (kW (fun _ _ _ => 0))) := Lib.hid ⟨HB1.out.trans (hb.mono HB1.out.size), HB1.out.size, by rw [← nz_any 0]; exact hP⟩; clear hP hb)
    | (at_make; refine wpList_make_full _ rfl _ _ 109 rfl w.heap.size 4 i1 (.bool false) 1 Tryd.underlying109 HJ.out.1 HJ.out.2.1 HJ.out.2.2.1 .i64 .i64 _ _ 5 rfl rfl rfl rfl ?b2 ?b3 ?b4 ?_))
  case b2 => rw [HJ.out.2.2.2]; omega
  case b3 => unfold maxLen; omega
  case b4 => exact HV.out.bel.size
  intro w3 hown hgrow
  have HL : Hid (FR w3 w.heap.size w2.heap.size 5 (fun _ => false)) := Lib.hid (by
    unfold FR
    have e : ((List.range 5).map fun i => Value.bool ((fun _ => false : Nat → Bool) i)) = (madeCells #[Value.bool false] 5).toList := by
      rw [toList_madeCells_one]
      simp [List.map_const']
    rw [e]
    exact hown)
  have HG := Lib.hid (show Below w2.heap.size w2 w3 from (Below.refl _ _).grown hgrow (Nat.le_refl _) (fun k hk => by cases hk))
  clear hown hgrow
  obtain ⟨L, HLe⟩ : ∃ L, Hid (w2.heap.size = L) := ⟨_, Lib.hid rfl⟩
  obtain ⟨H, HHe⟩ : ∃ H, Hid (w3.heap.size = H) := ⟨_, Lib.hid rfl⟩
  have HZ0 : Hid (∀ Z : Array Value, Z.toList = flatV (kW (fun _ _ _ => 0)) 5 → NZ w (w3.alloc (.cells Z 110)) w1.heap.size P p B G 5 L H (fun _ => false) (fun _ => 0) (fun _ _ _ => 0) (fun _ => false) (fun _ _ _ => 0)) := Lib.hid (fun Z hZ => by
    have h1 := HV.out.nd.pl
    have h2 := HV.out.nd.ar.pl
    have h3 := HV.out.nd.ar.lt.2
    have h4 := (HV.out.nd.row.lt G rfl).2
    have h5 := HG.out.size
    have h6 := (FR.lt HL.out).2
    have h7 := HLe.out
    have h8 := HHe.out
    have hb := HV.out.bel.size
    refine ⟨(HV.out.step HG.out).step ((Below.refl _ _).alloc (Nat.le_refl _) _), by rw [← h7]; exact FR.below HL.out ((Below.refl _ _).alloc (Nat.le_refl _) _), ?_, by omega⟩
    rw [← h8, ← hZ]
    have hl : Z.size = 400 := by rw [← Array.length_toList, hZ, flatV_len]
    exact ⟨by rw [hZ, flatV_len], .inr ⟨w3.heap.size, 1, Z, rfl, by omega, heap_alloc_new _ _, by decide, by decide, by rw [hl], by rw [show 1 * 400 = Z.toList.length by rw [Array.length_toList, hl], List.take_length]⟩⟩)
  go_wp2_with fail
  rw [HLe.out, HHe.out]
  clear HV HL HG HLe HHe
  go_loopw [12] (fun i wr => ∃ (k : Nat) (th : Nat → Bool) (vr : Nat → Int) (kk : Nat → Nat → Nat → Int), k ≤ len ∧ i = .int .i64 k ∧ NZ w wr w1.heap.size P p B G 5 L H th vr kk th kk ∧ ∀ i, i < 5 → 0 ≤ vr i ∧ vr i ≤ k) (fun i _ => len - (intOf i).toNat)
  case atStart => exact ⟨0, _, _, _, by omega, rfl, HZ0.out _ (by kernel_rfl), fun i hi => by simp⟩
  case round =>
    obtain ⟨k, th, vr, kk, hk, rfl, hP, hvr⟩ := hrel
    have HP := Lib.hid hP
    have HVr := Lib.hid hvr
    clear hP hvr
    by_cases hlt : k < len
    · obtain ⟨y, kd, di, da, y0, y1, y2, y3, y4, a2, m, c, ks, rfl, hD⟩ := ndo_at HR.out k hlt
      have HD0 := Lib.hid hD
      have k0 : (0 : Int) ≤ k := by omega
      have k1 : (k : Int) < len := by omega
      obtain ⟨d0, d1, d2, d3, d4, d5, d6, d7, d8, _, _, _, _⟩ := hD.below HP.out.nv.bel
      obtain ⟨N, hN⟩ : ∃ N, N = wr.heap.size := ⟨_, rfl⟩
      obtain ⟨w5, hw5⟩ : ∃ w5, w5 = wr.alloc (.cells #[.int .i64 kd, .int .i64 di, .int .i64 da, .int .i64 y0, .int .i64 y1, .int .i64 y2, .int .i64 y3, .int .u32 y4, .slice a2 m c] 112) := ⟨_, rfl⟩
      have HDQ := Lib.hid hN
      have HWQ := Lib.hid hw5
      have HP5 : Hid (NZ w w5 w1.heap.size P p B G 5 L H th vr kk th kk) := Lib.hid (by rw [hw5]; exact HP.out.step ((Below.refl _ _).alloc (Nat.le_refl _) _))
      have HDK : Hid (NDk w5 N kd di da y0 y1 y2 y3 y4 a2 m c) := Lib.hid (by rw [hN, hw5]; exact NDk.new _ _ _ _ _ _ _ _ _ _ _ _ _)
      have HNe : Hid (N ≤ w5.heap.size ∧ H < N) := Lib.hid (by rw [hN, hw5]; exact ⟨by simp, (HP.out.hv.lt H rfl).2⟩)
      clear hD hN hw5
      by_cases hm : 40 < m
      · have dm : decide ((40 : Int) < (m : Int)) = true := by simp; omega
        have HB5 : Hid (Below w.heap.size w (wr.alloc (.cells #[.int .i64 kd, .int .i64 di, .int .i64 da, .int .i64 y0, .int .i64 y1, .int .i64 y2, .int .i64 y3, .int .u32 y4, .slice a2 m c] 112))) := Lib.hid (by rw [← HWQ.out]; exact HP5.out.nv.bel)
        go_wp2_with fail
        go_ret
        exact ⟨rfl, HB5.out⟩
      · have dm : decide ((40 : Int) < (m : Int)) = false := by simp; omega
        go_upto_region 15 with fail
        rw [← HDQ.out, ← HWQ.out]
        clear HDQ HWQ HP d0 d1 d2 d3 d4 d5 d6 d7 d8
        obtain ⟨mw, HMw⟩ : ∃ mw, Hid (nlen 5 th id = mw) := ⟨_, Lib.hid rfl⟩
        obtain ⟨ws, HWs⟩ : ∃ ws, Hid (kk id.toNat = ws) := ⟨_, Lib.hid rfl⟩
        go_upto_region 17 with (first
          | (go_at_call 48; (with_reducible refine (nclone_is (by decide) _ HP5.out.nv.nd).mono ?_); rintro e w6 ⟨P2, p2, B2, G2, c2, q2, rfl, hC, hb⟩; have HC6 := Lib.hid hC; have HP6 := Lib.hid (HP5.out.step hb); have HD6 := Lib.hid (HDK.out.below hb); have HS6 := Lib.hid hb.size; clear hC hb)
          | (go_at_call 49; (with_reducible refine (ncall_any id mw HMw ws HWs _ HC6.out).mono ?_); rintro e w7 ⟨aw, cw, rfl, hr, hb⟩; have HRw : Hid (KS2 w7 N aw mw ws) := Lib.hid ⟨hr.ks, fun ad e => by have h1 := hr.lo ad e; have h2 := HNe.out.1; have h3 := HS6.out; omega⟩; have HC7 : Hid (NcAt w7 w5.heap.size P2 p2 B2 G2 5 c2 q2 th vr (kW kk)) := Lib.hid (HC6.out.mid (Nat.le_refl _) ⟨hb.size, fun k _ hk => hb.block k hk⟩); have HP7 := Lib.hid (HP6.out.step hb); have HD7 := Lib.hid (HD6.out.below hb); clear hr hb))
        clear HP5 HDK HC6 HP6 HD6 HS6
        obtain ⟨ti, HTi⟩ : ∃ ti, Hid (thereB 5 th di = ti) := ⟨_, Lib.hid rfl⟩
        go_cut [16] (fun v wx => v = .bool ti ∧ wx = w7)
        case first => as_aux_lemma =>
          have e1 := HD7.out.c1
          by_cases h0 : 0 ≤ di
          · by_cases h1 : di < 5
            · obtain ⟨j, rfl⟩ : ∃ j : Nat, di = j := ⟨di.toNat, by omega⟩
              have hj : j < 5 := by omega
              have eL := FR.at HP7.out.lv j hj
              have E : th j = ti := by rw [← HTi.out]; unfold thereB; rw [decide_eq_true (by omega)]; simp
              rw [E] at eL
              clear E
              go_wp2_with fail
              go_meet
              exact ⟨rfl, rfl⟩
            · have E : Hid (ti = false) := Lib.hid (by rw [← HTi.out]; unfold thereB; rw [decide_eq_false (by omega)]; rfl)
              go_wp2_with fail
              go_meet
              exact ⟨by rw [E.out], rfl⟩
          · have E : Hid (ti = false) := Lib.hid (by rw [← HTi.out]; unfold thereB; rw [decide_eq_false (by omega)]; rfl)
            go_wp2_with fail
            go_meet
            exact ⟨by rw [E.out], rfl⟩
        obtain ⟨rfl, hwc⟩ := hcut
        rw [hwc]
        clear hwc wc
        have e0 := HD7.out.c0
        go_upto_block 2 with fail
        clear e0
        go_cut [] (fun wx => ∃ (th' : Nat → Bool) (vr' : Nat → Int) (kk' : Nat → Nat → Nat → Int), NZ w wx w1.heap.size P p B G 5 L H th' vr' kk' th' kk' ∧ (∀ i, i < 5 → 0 ≤ vr' i ∧ vr' i ≤ (k : Int) + 1) ∧ Mid N w7.heap.size w7 wx)
        case first =>
          have HM0 := Lib.hid (Mid.refl N w7)
          have e0 := HD7.out.c0
          have HV1 : Hid (∀ i, i < 5 → 0 ≤ vr i ∧ vr i ≤ (k : Int) + 1) := Lib.hid (fun i hi => by have := HVr.out i hi; omega)
          by_cases hk1 : kd = 1
          · obtain rfl := hk1
            exact by as_aux_lemma =>
              obtain ⟨full, wn, HFull⟩ : ∃ (full : Bool) (wn : Int), Hid ((full = true ∧ wn = -1 ∧ ∀ i, i < 5 → th i = true) ∨ (full = false ∧ ∃ j : Nat, j < 5 ∧ wn = j ∧ th j = false ∧ ∀ i, i < j → th i = true)) := by
                rcases first_at (fun i => !th i) 5 with hall | ⟨j, hj, hjt, hjl⟩
                · exact ⟨true, -1, Lib.hid (.inl ⟨rfl, rfl, fun i hi => by have := hall i hi; simpa using this⟩)⟩
                · exact ⟨false, j, Lib.hid (.inr ⟨rfl, j, hj, rfl, by simpa using hjt, fun i hi => by have := hjl i hi; simpa using this⟩)⟩
              go_upto_block 3 with fail
              go_cut [18] (fun v wx => v = .int .i64 wn ∧ wx = w7)
              case first => as_aux_lemma =>
                rcases HFull.out with ⟨_, rfl, hall⟩ | ⟨_, j, hj, rfl, hjt, hjl⟩
                · have HAll := Lib.hid hall
                  clear hall
                  go_wp2_with fail
                  go_loop [18, 19] (fun v z => ∃ q : Nat, q ≤ 5 ∧ v = .int .i64 (-1) ∧ z = .int .i64 q) (fun _ z => 5 - (intOf z).toNat)
                  case atStart => exact ⟨0, by omega, rfl, rfl⟩
                  case round =>
                    obtain ⟨q, hq, rfl, rfl⟩ := hrel
                    by_cases hq6 : q < 5
                    · have q0 : (0 : Int) ≤ q := by omega
                      have q1 : (q : Int) < 5 := by omega
                      have eL := FR.at HP7.out.lv q hq6
                      rw [HAll.out q hq6] at eL
                      go_wp2_with fail
                      go_round
                      case rel => exact ⟨q + 1, by omega, rfl, by go_num⟩
                      case measure => simp [intOf]; omega
                    · have q1 : ¬ ((q : Int) < 5) := by omega
                      go_wp2_with fail
                      go_meet
                      exact ⟨rfl, rfl⟩
                · have HJt := Lib.hid hjt
                  have HLt := Lib.hid hjl
                  have j0 : (0 : Int) ≤ j := by omega
                  have j1 : (j : Int) < 5 := by omega
                  clear hjt hjl
                  go_wp2_with fail
                  go_loop [18, 19] (fun v z => ∃ q : Nat, z = .int .i64 q ∧ ((q ≤ j ∧ v = .int .i64 (-1)) ∨ (q = j + 1 ∧ v = .int .i64 (j : Int)))) (fun _ z => 7 - (intOf z).toNat)
                  case atStart => exact ⟨0, rfl, .inl ⟨by omega, rfl⟩⟩
                  case round =>
                    obtain ⟨q, rfl, hcase⟩ := hrel
                    rcases hcase with ⟨hq, rfl⟩ | ⟨hq, rfl⟩
                    · have q0 : (0 : Int) ≤ q := by omega
                      have q1 : (q : Int) < 5 := by omega
                      have eL := FR.at HP7.out.lv q (by omega)
                      by_cases hqj : q < j
                      · rw [HLt.out q hqj] at eL
                        go_wp2_with fail
                        go_round
                        case rel => exact ⟨q + 1, by go_num, .inl ⟨by omega, rfl⟩⟩
                        case measure => simp [intOf]; omega
                      · obtain rfl : q = j := by omega
                        rw [HJt.out] at eL
                        go_wp2_with fail
                        go_round
                        case rel => exact ⟨q + 1, by go_num, .inr ⟨rfl, rfl⟩⟩
                        case measure => simp [intOf]; omega
                    · have q0 : (0 : Int) ≤ q := by omega
                      clear hq
                      go_upto_region 27 with fail
                      go_cut [121] (fun v wx => v = .bool false ∧ wx = w7)
                      case first =>
                        by_cases hq6 : q < 5
                        · have q1 : (q : Int) < 5 := by omega
                          go_wp2_with fail
                          go_meet
                          exact ⟨rfl, rfl⟩
                        · have q1 : ¬ ((q : Int) < 5) := by omega
                          go_wp2_with fail
                          go_meet
                          exact ⟨rfl, rfl⟩
                      obtain ⟨rfl, hwc⟩ := hcut
                      rw [hwc]
                      clear hwc wc
                      go_wp2_with fail
                      go_meet
                      exact ⟨rfl, rfl⟩
              obtain ⟨rfl, hwc⟩ := hcut
              rw [hwc]
              clear hwc wc
              obtain ⟨b0, HB0⟩ : ∃ b0 : Int, Hid (b0 = if full = true then 106 else 0) := ⟨_, Lib.hid rfl⟩
              go_upto_if 131 with fail
              go_cut [17] (fun v wx => v = .int .i64 b0 ∧ wx = w7)
              case first => as_aux_lemma =>
                rcases HFull.out with ⟨rfl, rfl, _⟩ | ⟨rfl, j, hj, rfl, _, _⟩
                · have E := HB0.out
                  rw [if_pos rfl] at E
                  go_wp2_with fail
                  go_meet
                  exact ⟨by rw [E], rfl⟩
                · have E := HB0.out
                  rw [if_neg (by simp)] at E
                  have j0 : (0 : Int) ≤ j := by omega
                  go_wp2_with fail
                  go_meet
                  exact ⟨by rw [E], rfl⟩
              obtain ⟨rfl, hwc⟩ := hcut
              rw [hwc]
              clear hwc wc
              obtain ⟨bk, HBk⟩ : ∃ bk, Hid (badF b0 ks m m = bk) := ⟨_, Lib.hid rfl⟩
              have m0 : (0 : Int) ≤ m := by omega
              have m1 : (m : Int) ≤ 40 := by omega
              have e8 := HD7.out.c8
              have hw1 : IntKind.i64.wrap ((m : Int) - 1) = (m : Int) - 1 := by rw [IntKind.wrap_i64]; omega
              go_upto_block 5 with fail
              clear e8
              go_cut [17] (fun v wx => v = .int .i64 bk ∧ Below w7.heap.size w7 wx)
              case first => as_aux_lemma =>
                go_wp2_with fail
                go_loopw [17, 20] (fun b z wx => ∃ t : Nat, t ≤ m ∧ z = .int .i64 ((m : Int) - 1 - t) ∧ b = .int .i64 (badF b0 ks m t) ∧ Below w7.heap.size w7 wx) (fun _ z _ => (intOf z + 1).toNat)
                case atStart => exact ⟨0, by omega, by congr 1; omega, rfl, Below.refl _ _⟩
                case round =>
                  obtain ⟨t, ht, rfl, rfl, hb⟩ := hrel
                  have HB := Lib.hid hb
                  clear hb
                  have HPw := Lib.hid (HP7.out.step HB.out)
                  have e8 := (HD7.out.below HB.out).c8
                  by_cases hlt2 : t < m
                  · obtain ⟨i, hi⟩ : ∃ i : Nat, i = m - (t + 1) := ⟨_, rfl⟩
                    have hi2 : (m : Int) - 1 - t = i := by omega
                    have him : i < m := by omega
                    rw [hi2]
                    obtain ⟨ad, rfl, _, c0, c1, c2, c3, c4⟩ := (HD0.out.rk.below HPw.out.nv.bel).in i him
                    have gk := HD0.out.gk i him
                    obtain ⟨cv, hcv⟩ : ∃ cv, cK ks i = cv := ⟨_, rfl⟩
                    have hst : badF b0 ks m (t + 1) = if cv = 0 then badF b0 ks m t else cv := by
                      show (if cK ks (m - (t + 1)) = 0 then badF b0 ks m t else cK ks (m - (t + 1))) = _
                      rw [← hi, hcv]
                    have HSt := Lib.hid hst
                    unfold cK at hcv
                    have HCv := Lib.hid hcv
                    clear hst hcv hi
                    generalize ks i 0 = z0 at c0 HCv
                    generalize ks i 1 = z1 at c1 HCv
                    generalize ks i 2 = z2 at c2 HCv
                    generalize ks i 3 = z3 at c3 HCv
                    generalize ks i 4 = z4 at c4 HCv gk
                    have i0 : (0 : Int) ≤ i := by omega
                    have i1 : (i : Int) < m := by omega
                    have hw2 : IntKind.i64.wrap ((i : Int) - 1) = (i : Int) - 1 := by rw [IntKind.wrap_i64]; omega
                    have hz : (i : Int) - 1 = (m : Int) - 1 - ((t + 1 : Nat) : Int) := by omega
                    have HZt := Lib.hid hz
                    clear hi2 hz
                    by_cases hc0 : cv = 0
                    · have t0 : (cv == 0) = true := by simpa using hc0
                      have t1 : (cv != 0) = false := by simpa using hc0
                      have HE2 : Hid (badF b0 ks m (t + 1) = badF b0 ks m t) := Lib.hid (by rw [HSt.out, if_pos hc0])
                      clear hc0
                      go_wp2_with (first
                        | (go_at_call 37; (with_reducible refine (valid_is z0 z1 z2 z3 z4 cv HCv gk _).mono ?_); rintro e w8 ⟨rfl, hb⟩; have HB8 := Lib.hid (HB.out.trans (hb.mono HB.out.size)); clear hb))
                      go_roundw
                      case rel => exact ⟨t + 1, by omega, by rw [HZt.out], by rw [HE2.out], HB8.out⟩
                      case measure => simp [intOf] <;> omega
                    · have t0 : (cv == 0) = false := by simpa using hc0
                      have t1 : (cv != 0) = true := by simpa using hc0
                      have HE2 : Hid (badF b0 ks m (t + 1) = cv) := Lib.hid (by rw [HSt.out, if_neg hc0])
                      clear hc0
                      go_wp2_with (first
                        | (go_at_call 37; (with_reducible refine (valid_is z0 z1 z2 z3 z4 cv HCv gk _).mono ?_); rintro e w8 ⟨rfl, hb⟩; have HB8 := Lib.hid (HB.out.trans (hb.mono HB.out.size)); clear hb))
                      go_roundw
                      case rel => exact ⟨t + 1, by omega, by rw [HZt.out], by rw [HE2.out], HB8.out⟩
                      case measure => simp [intOf] <;> omega
                  · obtain rfl : t = m := by omega
                    have hz : ((t : Int) - 1 - t) = -1 := by omega
                    rw [hz, HBk.out]
                    go_wp2_with fail
                    go_meet
                    exact ⟨rfl, HB.out⟩
              obtain ⟨rfl, hb8⟩ := hcut
              obtain ⟨w8, hw8⟩ : ∃ w8, w8 = wc := ⟨_, rfl⟩
              subst hw8
              have HP8 := Lib.hid (HP7.out.step hb8)
              have HM8 := Lib.hid (HM0.out.step hb8)
              have HD8 := Lib.hid (HD7.out.below hb8)
              clear hb8
              obtain ⟨bf, HBf⟩ : ∃ bf : Int, Hid (bf = if 16 < m then 104 else bk) := ⟨_, Lib.hid rfl⟩
              have e8 := HD8.out.c8
              go_upto_if 152 with fail
              go_cut [17] (fun v wx => v = .int .i64 bf ∧ wx = w8)
              case first => as_aux_lemma =>
                by_cases hm16 : 16 < m
                · have d2 : decide ((16 : Int) < (m : Int)) = true := by simp; omega
                  have E := HBf.out
                  rw [if_pos hm16] at E
                  go_wp2_with fail
                  go_meet
                  exact ⟨by rw [E], rfl⟩
                · have d2 : decide ((16 : Int) < (m : Int)) = false := by simp; omega
                  have E := HBf.out
                  rw [if_neg hm16] at E
                  go_wp2_with fail
                  go_meet
                  exact ⟨by rw [E], rfl⟩
              obtain ⟨rfl, hwc⟩ := hcut
              rw [hwc]
              clear hwc wc
              rcases make_out 5 th vr ks m b0 bk bf full (fun hf => by
                rcases HFull.out with ⟨_, _, hall⟩ | ⟨h0, _⟩
                · intro i hi; unfold freeB; rw [hall i hi]; rfl
                · rw [hf] at h0; cases h0) HB0.out HBk.out.symm HBf.out with ⟨e, he12, hME, hbf⟩ | ⟨hbf, hm16, hkr, hfl⟩
              · have HBf2 := Lib.hid hbf.symm
                have HME := Lib.hid hME
                clear hbf hME
                go_wp2_with (first
                  | (go_at_call 50; (with_reducible refine (nm_err A a2 m c e ks HME.out _ (HS.out.below HP8.out.nv.bel) HP8.out.nv.nd (HD0.out.rk.srck HP8.out.nv.bel HP8.out.nv.lo.1 HP8.out.nv.lo.2)).mono ?_); rintro e' w9 ⟨rfl, hb⟩; have HP9 := Lib.hid (HP8.out.step hb); have HM9 := Lib.hid (HM8.out.step hb); clear hb)
                  | (go_at_call 14; (with_reducible refine (is_sen A e bf he12 HBf2 _ (HS.out.below HP9.out.nv.bel)).mono ?_); rintro e' w10 ⟨rfl, hb⟩; have HP10 := Lib.hid (HP9.out.step hb); have HM10 := Lib.hid (HM9.out.step hb); clear hb))
                go_meet
                exact ⟨th, vr, kk, HP10.out, HV1.out, HM10.out⟩
              · obtain ⟨j, hj, hwn, hjt, hjl⟩ : ∃ j : Nat, j < 5 ∧ wn = j ∧ th j = false ∧ ∀ i, i < j → th i = true := by
                  rcases HFull.out with ⟨h0, _⟩ | ⟨_, h1⟩
                  · rw [hfl] at h0; cases h0
                  · exact h1
                subst hwn
                have HKr := Lib.hid hkr
                have HFj : Hid (freeB th vr j = true) := Lib.hid (by have := HVr.out j hj; unfold freeB; rw [hjt]; simp; omega)
                have HNo : Hid (∀ i, i < j → freeB th vr i = false) := Lib.hid (fun i hi => by unfold freeB; rw [hjl i hi]; rfl)
                have j0 : (0 : Int) ≤ j := by omega
                have j1 : (j : Int) < 5 := by omega
                obtain rfl : bf = 0 := hbf
                clear hkr hjt hjl HFull HBf HBk HB0
                go_upto_region 46 with (first
                  | (go_at_call 50; (with_reducible refine (nm_ok (j : Int) (eV (sA A 1)) (eV (sA A 2)) a2 m c ks hm16 HKr j (Lib.hid rfl) hj HFj HNo (vr j) (Lib.hid rfl) _ (HS.out.below HP8.out.nv.bel).errs HP8.out.nv.nd (HD0.out.rk.srck HP8.out.nv.bel HP8.out.nv.lo.1 HP8.out.nv.lo.2)).mono ?_); rintro e' w9 ⟨rfl, hM, hb⟩; have HP9 := Lib.hid (HP8.out.made hM hb); have HM9 := Lib.hid (HM8.out.made hb (by have := HP8.out.lo; have := HNe.out; omega) (by have := HP8.out.lo; have := HNe.out; omega)); clear hM hb)
                  | (go_at_call 14; (with_reducible refine (is_fine _).mono ?_); rintro e' w10 ⟨rfl, hb⟩; have HPa := Lib.hid (HP9.out.step hb); have HMa := Lib.hid (HM9.out.step hb); have eL := FR.at HPa.out.lv j hj; have zL := FR.free HPa.out.lv j; clear hb))
                generalize hg : World.setCell w10 _ _ = w11
                have HP11 : Hid (NZ w w11 w1.heap.size P p B G 5 L H (upd th j true) vr (madeK kk j m ks) (upd th j true) kk) := Lib.hid (by rw [← hg]; exact (HPa.out.live j hj true).1)
                have HM11 : Hid (Mid N w7.heap.size w7 w11) := Lib.hid (by rw [← hg]; exact HMa.out.grown (HPa.out.live j hj true).2 (by have := HPa.out.lo; have := HNe.out; omega))
                clear hg eL zL e8 HP8 HM8 HPa HMa HP9 HM9
                have HTh : Hid (w11.there H (j * 80) zs80.toArray.size) := Lib.hid (fun b hb => by
                  have hb' : b < 80 := by rw [List.size_toArray, zs80_len] at hb; exact hb
                  have h := HP11.out.hat j b hj hb'
                  exact ⟨by rw [h.1]; rfl, h.2⟩)
                go_upto_region 47 with (refine wpList_store_mid (by rfl) _ _ _ (by rfl) H (j * 80) zs80.toArray (by rfl) (by kernel_rfl) HTh.out infoSlotsS zs80_all ?_)
                generalize hg : World.setCells w11 _ _ _ = w12
                have hg2 : w11.setCells H (j * 80) zs80 = w12 := hg
                have HP12 : Hid (NZ w w12 w1.heap.size P p B G 5 L H (upd th j true) vr (madeK kk j m ks) (upd th j true) (madeK kk j 0 ks)) := Lib.hid (by rw [← hg2]; exact (HP11.out.clear j hj ks).1)
                have HM12 : Hid (Mid N w7.heap.size w7 w12) := Lib.hid (by rw [← hg2]; exact HM11.out.grown (HP11.out.clear j hj ks).2 (by have := HNe.out; omega))
                clear hg hg2 HTh HP11 HM11
                go_wp2_with fail
                go_loopw [25] (fun z wx => ∃ q : Nat, q ≤ m ∧ z = .int .i64 q ∧ NZ w wx w1.heap.size P p B G 5 L H (upd th j true) vr (madeK kk j m ks) (upd th j true) (madeK kk j q ks) ∧ Mid N w7.heap.size w7 wx) (fun z _ => m - (intOf z).toNat)
                case atStart => exact ⟨0, by omega, rfl, HP12.out, HM12.out⟩
                case round =>
                  obtain ⟨u, hu, rfl, hP, hM⟩ := hrel
                  have HPq := Lib.hid hP
                  have HMq := Lib.hid hM
                  clear hP hM
                  have e8 := (HD7.out.mid (Nat.le_refl _) HMq.out).c8
                  by_cases hum : u < m
                  · obtain ⟨ad, rfl, had, c0, c1, c2, c3, c4⟩ := (HD0.out.rk.below HPq.out.nv.bel).in u hum
                    have HU := Lib.hid (kW_step kk j u ks)
                    generalize ks u 0 = z0 at c0 HU
                    generalize ks u 1 = z1 at c1 HU
                    generalize ks u 2 = z2 at c2 HU
                    generalize ks u 3 = z3 at c3 HU
                    generalize ks u 4 = z4 at c4 HU
                    have u0 : (0 : Int) ≤ u := by omega
                    have u1 : (u : Int) < m := by omega
                    have u2 : (u : Int) < 16 := by omega
                    have hu16 : u < 16 := by omega
                    have HPs := Lib.hid (HPq.out.put j u hj hu16 z0 z1 z2 z3 z4)
                    have HMs := Lib.hid (HMq.out.grown HPs.out.2 (by have := HNe.out; omega))
                    have hkey := HPq.out.key j u hj hu16
                    obtain ⟨h0, h1, h2, h3, h4⟩ := hkey
                    have z0' := HPq.out.free (j * 80 + u * 5)
                    have z1' := HPq.out.free (j * 80 + u * 5 + 1)
                    have z2' := HPq.out.free (j * 80 + u * 5 + 2)
                    have z3' := HPq.out.free (j * 80 + u * 5 + 3)
                    have z4' := HPq.out.free (j * 80 + u * 5 + 4)
                    go_upto_region 50 with fail
                    go_still_tail 9, (by kernel_rfl)
                    change wpList _ _ _ _ _ wr.drew
                    go_wp2_with fail
                    go_roundw
                    case rel => exact ⟨u + 1, by omega, by go_num, (HPs.out.1.step ((Below.refl _ _).drew)).khc HU.out, HMs.out.step ((Below.refl _ _).drew)⟩
                    case measure => simp [intOf] <;> omega
                  · obtain rfl : u = m := by omega
                    have hdd : decide (u < u) = false := by simp
                    go_wp2_with fail
                    go_meet
                    exact ⟨_, vr, _, HPq.out, HV1.out, HMq.out⟩
          · have t1 : (kd == 1) = false := by simpa using hk1
            by_cases hk2 : kd = 2
            · obtain rfl := hk2
              exact by as_aux_lemma =>
                clear HR HJ HVr HRw HC7 HMw HWs hd dm hlt hl hk k0 k1
                obtain ⟨cv, HCv⟩ : ∃ cv, Hid (codeOf y0 y1 y2 y3 y4 = cv) := ⟨_, Lib.hid rfl⟩
                obtain ⟨slb, HSl⟩ : ∃ slb, Hid (decide (0 ≤ da ∧ da < 16) = slb) := ⟨_, Lib.hid rfl⟩
                have e3 := HD7.out.c3
                have e4 := HD7.out.c4
                have e5 := HD7.out.c5
                have e6 := HD7.out.c6
                have e7 := HD7.out.c7
                have g4 := HD0.out.g4
                go_upto_region 53 with (first
                  | (go_at_call 37; (with_reducible refine (valid_is y0 y1 y2 y3 y4 cv HCv g4 _).mono ?_); rintro e w8 ⟨rfl, hb⟩; have HP8 := Lib.hid (HP7.out.step hb); have HM8 := Lib.hid (HM0.out.step hb); have HD8 := Lib.hid (HD7.out.below hb); clear hb))
                clear e3 e4 e5 e6 e7 e0
                have e2 := HD8.out.c2
                go_cut [210] (fun v wx => v = .bool (!slb) ∧ wx = w8)
                case first => as_aux_lemma =>
                  by_cases h0 : 0 ≤ da
                  · by_cases h1 : da < 16
                    · have E : slb = true := by rw [← HSl.out]; exact decide_eq_true ⟨h0, h1⟩
                      have d0 : decide (da < 0) = false := decide_eq_false (by omega)
                      have d1 : decide ((16 : Int) ≤ da) = false := decide_eq_false (by omega)
                      go_wp2_with fail
                      go_meet
                      exact ⟨by rw [E]; rfl, rfl⟩
                    · have E : slb = false := by rw [← HSl.out]; exact decide_eq_false (by omega)
                      have d0 : decide (da < 0) = false := decide_eq_false (by omega)
                      have d1 : decide ((16 : Int) ≤ da) = true := decide_eq_true (by omega)
                      go_wp2_with fail
                      go_meet
                      exact ⟨by rw [E]; rfl, rfl⟩
                  · have E : slb = false := by rw [← HSl.out]; exact decide_eq_false (by omega)
                    have d0 : decide (da < 0) = true := decide_eq_true (by omega)
                    go_wp2_with fail
                    go_meet
                    exact ⟨by rw [E]; rfl, rfl⟩
                obtain ⟨rfl, hwc⟩ := hcut
                rw [hwc]
                clear hwc wc e2
                obtain ⟨b1, HB1⟩ : ∃ b1 : Int, Hid (b1 = if slb = false then 103 else cv) := ⟨_, Lib.hid rfl⟩
                go_upto_if 210 with fail
                go_cut [26] (fun v wx => v = .int .i64 b1 ∧ wx = w8)
                case first => as_aux_lemma =>
                  have E := HB1.out
                  cases slb
                  · go_wp2_with fail
                    go_meet
                    exact ⟨by rw [E]; rfl, rfl⟩
                  · go_wp2_with fail
                    go_meet
                    exact ⟨by rw [E]; rfl, rfl⟩
                obtain ⟨rfl, hwc⟩ := hcut
                rw [hwc]
                clear hwc wc
                obtain ⟨b2, HB2⟩ : ∃ b2 : Int, Hid (setB ti slb cv = b2) := ⟨_, Lib.hid rfl⟩
                go_upto_if 212 with fail
                go_cut [26] (fun v wx => v = .int .i64 b2 ∧ wx = w8)
                case first => as_aux_lemma =>
                  have E := HB2.out
                  have E1 := HB1.out
                  cases ti
                  · go_wp2_with fail
                    go_meet
                    exact ⟨by rw [← E]; rfl, rfl⟩
                  · go_wp2_with fail
                    go_meet
                    exact ⟨by rw [← E, E1]; rfl, rfl⟩
                obtain ⟨rfl, hwc⟩ := hcut
                rw [hwc]
                clear hwc wc
                have e1 := HD8.out.c1
                have e2 := HD8.out.c2
                have e3 := HD8.out.c3
                have e4 := HD8.out.c4
                have e5 := HD8.out.c5
                have e6 := HD8.out.c6
                have e7 := HD8.out.c7
                by_cases hb2 : b2 = 0
                · obtain rfl := hb2
                  have hall : ti = true ∧ slb = true ∧ cv = 0 := by
                    have E := HB2.out
                    unfold setB at E
                    cases ti
                    · simp at E
                    · cases slb
                      · simp at E
                      · exact ⟨rfl, rfl, by simpa using E⟩
                  obtain ⟨rfl, rfl, rfl⟩ := hall
                  obtain ⟨i, rfl, hi, hit⟩ := there_nat HTi.out
                  have hda := of_decide_eq_true HSl.out
                  obtain ⟨j, rfl⟩ : ∃ j : Nat, da = j := ⟨da.toNat, by omega⟩
                  have hj : j < 16 := by omega
                  have HIt := Lib.hid hit
                  have HRt := Lib.hid (right_of_code HCv.out)
                  have i0 : (0 : Int) ≤ i := by omega
                  have i1 : (i : Int) < 5 := by omega
                  have j0 : (0 : Int) ≤ j := by omega
                  have j1 : (j : Int) < 16 := by omega
                  clear hda hit
                  go_upto_region 60 with (first
                    | (go_at_call 51; (with_reducible refine (ns_ok (eV (sA A 1)) (eV (sA A 2)) i j hi hj HIt y0 y1 y2 y3 y4 HRt _ (HS.out.below HP8.out.nv.bel).errs HP8.out.nv.nd).mono ?_); rintro e w9 ⟨rfl, hM, hb⟩; have HP9 := Lib.hid (HP8.out.made hM hb); have HM9 := Lib.hid (HM8.out.made hb (by have := HP8.out.lo; have := HNe.out; omega) (by have := HP8.out.lo; have := HNe.out; omega)); clear hM hb)
                    | (go_at_call 14; (with_reducible refine (is_fine _).mono ?_); rintro e w10 ⟨rfl, hb⟩; have HPa := Lib.hid (HP9.out.step hb); have HMa := Lib.hid (HM9.out.step hb); clear hb))
                  clear e1 e2 e3 e4 e5 e6 e7 HP8 HM8 HP9 HM9
                  have HDa := Lib.hid (HD7.out.mid (Nat.le_refl _) HMa.out)
                  have e1 := HDa.out.c1
                  have e2 := HDa.out.c2
                  have e3 := HDa.out.c3
                  have e4 := HDa.out.c4
                  have e5 := HDa.out.c5
                  have e6 := HDa.out.c6
                  have e7 := HDa.out.c7
                  obtain ⟨h0, h1, h2, h3, h4⟩ := HPa.out.key i j hi hj
                  have z0 := HPa.out.free (i * 80 + j * 5)
                  have z1 := HPa.out.free (i * 80 + j * 5 + 1)
                  have z2 := HPa.out.free (i * 80 + j * 5 + 2)
                  have z3 := HPa.out.free (i * 80 + j * 5 + 3)
                  have z4 := HPa.out.free (i * 80 + j * 5 + 4)
                  have HPs := Lib.hid (HPa.out.put i j hi hj y0 y1 y2 y3 y4)
                  have HMs := Lib.hid (HMa.out.grown HPs.out.2 (by have := HNe.out; omega))
                  go_still_tail 8, (by kernel_rfl)
                  change wpList _ _ _ _ _ w10.drew
                  go_wp2_with fail
                  go_meet
                  exact ⟨th, vr, _, HPs.out.1.step ((Below.refl _ _).drew), HV1.out, HMs.out.step ((Below.refl _ _).drew)⟩
                ·
                  obtain ⟨e, he12, hE, hC⟩ := nset_err A di da y0 y1 y2 y3 y4 ti slb HTi.out HSl.out (by rw [HCv.out, HB2.out]; exact hb2) w8 (HS.out.below HP8.out.nv.bel) HP8.out.nv.nd
                  rw [HCv.out, HB2.out] at hE
                  have HEr := Lib.hid hE.symm
                  have HCt := Lib.hid hC
                  have t3 : (b2 == 0) = false := by simpa using hb2
                  clear hE hC hb2
                  go_wp2_with (first
                    | (go_at_call 51; (with_reducible refine HCt.out.mono ?_); rintro e' w9 ⟨rfl, hb⟩; have HP9 := Lib.hid (HP8.out.step hb); have HM9 := Lib.hid (HM8.out.step hb); clear hb)
                    | (go_at_call 14; (with_reducible refine (is_sen A e b2 he12 HEr _ (HS.out.below HP9.out.nv.bel)).mono ?_); rintro e' w10 ⟨rfl, hb⟩; have HP10 := Lib.hid (HP9.out.step hb); have HM10 := Lib.hid (HM9.out.step hb); clear hb))
                  go_meet
                  exact ⟨th, vr, kk, HP10.out, HV1.out, HM10.out⟩
            · have t2 : (kd == 2) = false := by simpa using hk2
              exact by as_aux_lemma =>
                have hwd : Below w7.heap.size w7 w7.drew := (Below.refl _ _).drew
                have HPd := Lib.hid (HP7.out.step hwd)
                have HDd := Lib.hid (HD7.out.below hwd)
                have HMd := Lib.hid (HM0.out.step hwd)
                have HS4 := Lib.hid (HS.out.below HPd.out.nv.bel).c4
                clear hwd
                cases ti
                · go_wp2_with fail
                  go_region_held3 (fun w' => w'.cell? ⟨P, 0, none⟩ = some (.pointer (some ⟨p, 0, none⟩)) ∧ w'.cell? ⟨N, 1, none⟩ = some (.int .i64 di)) (first | exact ⟨HPd.out.nv.nd.f0, HDd.out.c1⟩ | assumption) (first | (go_at_call 52; (with_reducible refine (agive_no di _ HPd.out.nv.nd.ar HTi (eV (sA A 4)) HS4.out).mono ?_); rintro e w8 ⟨rfl, rfl⟩))
                  go_wp2_with fail
                  go_meet
                  exact ⟨th, vr, kk, HPd.out, HV1.out, HMd.out⟩
                · obtain ⟨j, rfl, hj, hjt⟩ := there_nat HTi.out
                  have hb := HVr.out j hj
                  have hv0 : -1000000000 ≤ vr j := by omega
                  have hv1 : vr j ≤ 1000000000 := by omega
                  have HJt := Lib.hid hjt
                  have j0 : (0 : Int) ≤ j := by omega
                  have j1 : (j : Int) < 5 := by omega
                  clear hb hjt
                  go_wp2_with fail
                  go_region_held3 (fun w' => w'.cell? ⟨P, 0, none⟩ = some (.pointer (some ⟨p, 0, none⟩)) ∧ w'.cell? ⟨N, 1, none⟩ = some (.int .i64 (j : Int))) (first | exact ⟨HPd.out.nv.nd.f0, HDd.out.c1⟩ | assumption) (first | (go_at_call 52; (with_reducible refine (agive_ok _ HPd.out.nv.nd.ar j hj HJt (vr j) (Lib.hid rfl) hv0 hv1).mono ?_); rintro e w8 ⟨rfl, hA, hg⟩; have HP8 := Lib.hid (HPd.out.made (HPd.out.nv.nd.turn hA hg) (PBelow.of (G := G) hg (.inl rfl))); have HM8 := Lib.hid (HMd.out.made (PBelow.of (G := G) hg (.inl rfl)) (by have := HPd.out.lo; have := HNe.out; omega) (by have := HPd.out.lo; have := HNe.out; omega)); have HD8 := Lib.hid (HD7.out.mid (Nat.le_refl _) HM8.out); have hk8 := And.intro HP8.out.nv.nd.f0 HD8.out.c1; clear hA hg))
                  have e8 := HD8.out.c1
                  have eL := FR.at HP8.out.lv j hj
                  have zL := FR.free HP8.out.lv j
                  have HP9 := Lib.hid (HP8.out.live j hj false)
                  have HM9 := Lib.hid (HM8.out.grown HP9.out.2 (by have := HPd.out.lo; have := HNe.out; omega))
                  go_wp2_with fail
                  go_meet
                  exact ⟨_, _, kk, HP9.out.1, fun i hi => by have := HVr.out i hi; unfold upd; split <;> (try subst_vars) <;> omega, HM9.out⟩
        case rest => as_aux_lemma =>
          clear HR HJ HD0 HD7 HVr HTi hd dm hm
          obtain ⟨th', vr', kk', hP, hvr, hM⟩ := hcut
          have HPf := Lib.hid hP
          have HVf := Lib.hid hvr
          have HMf := Lib.hid hM
          clear hP hvr hM HP7
          obtain ⟨w8, hw8⟩ : ∃ w8, w8 = wc := ⟨_, rfl⟩
          subst hw8
          obtain ⟨tt, HTt⟩ : ∃ tt, Hid (thereB 5 th' id = tt) := ⟨_, Lib.hid rfl⟩
          obtain ⟨slb, HSl⟩ : ∃ slb, Hid (decide (0 ≤ sl ∧ sl < 16) = slb) := ⟨_, Lib.hid rfl⟩
          obtain ⟨tr, HTr⟩ : ∃ tr, Hid ((thereB 5 th' id && decide (0 ≤ sl ∧ sl < 16)) = tr) := ⟨_, Lib.hid rfl⟩
          obtain ⟨g0, g1, g2, g3, g4, HG⟩ : ∃ g0 g1 g2 g3 g4, Hid (gK kk' id sl tr 0 = g0 ∧ gK kk' id sl tr 1 = g1 ∧ gK kk' id sl tr 2 = g2 ∧ gK kk' id sl tr 3 = g3 ∧ gK kk' id sl tr 4 = g4) := ⟨_, _, _, _, _, Lib.hid ⟨rfl, rfl, rfl, rfl, rfl⟩⟩
          obtain ⟨mw2, HMw2⟩ : ∃ mw, Hid (nlen 5 th' id = mw) := ⟨_, Lib.hid rfl⟩
          obtain ⟨ws2, HWs2⟩ : ∃ ws, Hid (kk' id.toNat = ws) := ⟨_, Lib.hid rfl⟩
          have hmw : mw ≤ 16 := by rw [← HMw.out]; exact nlen_le _ _ _
          have hmw2 : mw2 ≤ 16 := by rw [← HMw2.out]; exact nlen_le _ _ _
          go_upto_region 61 with fail
          go_cut [27] (fun v wx => v = .bool tt ∧ wx = w8)
          case first => as_aux_lemma =>
            by_cases h0 : 0 ≤ id
            · by_cases h1 : id < 5
              · obtain ⟨j, rfl⟩ : ∃ j : Nat, id = j := ⟨id.toNat, by omega⟩
                have hj : j < 5 := by omega
                have eL := FR.at HPf.out.lv j hj
                have E : th' j = tt := by rw [← HTt.out]; unfold thereB; rw [decide_eq_true (by omega)]; simp
                rw [E] at eL
                clear E
                go_wp2_with fail
                go_meet
                exact ⟨rfl, rfl⟩
              · have E : Hid (tt = false) := Lib.hid (by rw [← HTt.out]; unfold thereB; rw [decide_eq_false (by omega)]; rfl)
                go_wp2_with fail
                go_meet
                exact ⟨by rw [E.out], rfl⟩
            · have E : Hid (tt = false) := Lib.hid (by rw [← HTt.out]; unfold thereB; rw [decide_eq_false (by omega)]; rfl)
              go_wp2_with fail
              go_meet
              exact ⟨by rw [E.out], rfl⟩
          obtain ⟨rfl, hwc2⟩ := hcut
          rw [hwc2]
          clear hwc2 wc
          go_upto_region 63 with (first
            | (go_at_call 53; (with_reducible refine (nget_any id sl tr HTr g0 g1 g2 g3 g4 HG _ HPf.out.nv.nd).mono ?_); rintro e w9 ⟨rfl, hb⟩; have HB9 := Lib.hid hb; clear hb))
          generalize hg : World.alloc w9 _ = w10
          obtain ⟨KG, hKG⟩ : ∃ KG, KG = w9.heap.size := ⟨_, rfl⟩
          have HK : Hid (WantAt w10 KG g0 g1 g2 g3 g4 ∧ NZ w w10 w1.heap.size P p B G 5 L H th' vr' kk' th' kk' ∧ Mid N w7.heap.size w7 w10) := Lib.hid (by
            have hb : Below w8.heap.size w8 w10 := by rw [← hg]; exact HB9.out.alloc HB9.out.size _
            exact ⟨by rw [← hg, hKG]; exact WantAt.new _ _ _ _ _ _ _, HPf.out.step hb, HMf.out.step hb⟩)
          rw [← hKG]
          clear hg hKG HPf HMf HB9
          go_upto_region 64 with (first
            | (go_at_call 49; (with_reducible refine (nall_any id mw2 HMw2 ws2 HWs2 _ HK.out.2.1.nv.nd).mono ?_); rintro e w11 ⟨aw2, cw2, rfl, hr, hb⟩; have HRw2 := Lib.hid hr.ks; have HPb := Lib.hid (HK.out.2.1.step hb); have HMb := Lib.hid (HK.out.2.2.step hb); have HKb := Lib.hid (HK.out.1.below hb); clear hr hb))
          clear HK
          go_cut [289] (fun v wx => v = .bool false ∧ Below w11.heap.size w11 wx)
          case first => as_aux_lemma =>
            cases tr
            ·
              clear HC7 HRw HVf HMb HG HSl HRw2 HKb HMw HWs HMw2 HWs2 hmw hmw2 HNe
              have f0 := HPb.out.nv.nd.f0
              have CT := HTt
              have HAd := Lib.hid (fun n => athere_is id tt CT (w11.drewN n) (HPb.out.nv.nd.ar.below (below_drewN (Below.refl _ _) n)))
              cases tt
              · go_quiet ((go_at_call 54; exact kquiet_left (HAd.out _)))
                go_wp2_with fail
                go_meet
                exact ⟨rfl, below_drewN (Below.refl _ _) _⟩
              · have hn : ¬ (0 ≤ sl ∧ sl < 16) := by
                  have := HTr.out
                  rw [HTt.out] at this
                  simpa using this
                by_cases h2 : 0 ≤ sl
                · have d0 : decide (0 ≤ sl) = true := decide_eq_true h2
                  have d1 : decide (sl < 16) = false := decide_eq_false (by omega)
                  clear hn h2
                  go_quiet ((go_at_call 54; exact kquiet_left (HAd.out _)))
                  go_wp2_with fail
                  go_meet
                  exact ⟨rfl, below_drewN (Below.refl _ _) _⟩
                · have d0 : decide (0 ≤ sl) = false := decide_eq_false h2
                  clear hn h2
                  go_quiet ((go_at_call 54; exact kquiet_left (HAd.out _)))
                  go_wp2_with fail
                  go_meet
                  exact ⟨rfl, below_drewN (Below.refl _ _) _⟩
            ·
              have hb := HTr.out
              rw [Bool.and_eq_true, decide_eq_true_eq] at hb
              have E : tt = true := by rw [← HTt.out]; exact hb.1
              subst E
              obtain ⟨i, rfl, hi, hit⟩ := there_nat hb.1
              obtain ⟨j, rfl⟩ : ∃ j : Nat, sl = j := ⟨sl.toNat, by omega⟩
              have hj : j < 16 := by omega
              have i0 : (0 : Int) ≤ i := by omega
              have i1 : (i : Int) < 5 := by omega
              have j0 : (0 : Int) ≤ j := by omega
              have j1 : (j : Int) < 16 := by omega
              have HSA : Hid (∀ W, Below w11.heap.size w11 W → (Below w11.heap.size w11 W ∧ World.cell? W ⟨P, 0, none⟩ = some (.pointer (some ⟨p, 0, none⟩)) ∧ World.cell? W ⟨KG, 0, none⟩ = some (.int .i64 g0) ∧ World.cell? W ⟨KG, 1, none⟩ = some (.int .i64 g1) ∧ World.cell? W ⟨KG, 2, none⟩ = some (.int .i64 g2) ∧ World.cell? W ⟨KG, 3, none⟩ = some (.int .i64 g3) ∧ World.cell? W ⟨KG, 4, none⟩ = some (.int .u32 g4) ∧ World.cell? W ⟨H, i * 80 + j * 5, none⟩ = some (.int .i64 g0) ∧ World.cell? W ⟨H, i * 80 + j * 5 + 1, none⟩ = some (.int .i64 g1) ∧ World.cell? W ⟨H, i * 80 + j * 5 + 2, none⟩ = some (.int .i64 g2) ∧ World.cell? W ⟨H, i * 80 + j * 5 + 3, none⟩ = some (.int .i64 g3) ∧ World.cell? W ⟨H, i * 80 + j * 5 + 4, none⟩ = some (.int .u32 g4))) := Lib.hid (fun W hW => by
                obtain ⟨h0, h1, h2, h3, h4⟩ := (HPb.out.step hW).key i j hi hj
                have hG := HG.out
                have e := fun q => (show gK kk' (i : Int) (j : Int) true q = kk' i j q from rfl)
                rw [e, e, e, e, e] at hG
                rw [hG.1] at h0
                rw [hG.2.1] at h1
                rw [hG.2.2.1] at h2
                rw [hG.2.2.2.1] at h3
                rw [hG.2.2.2.2] at h4
                have hk := HKb.out.below hW
                exact ⟨hW, (HPb.out.step hW).nv.nd.f0, hk.c0, hk.c1, hk.c2, hk.c3, hk.c4, h0, h1, h2, h3, h4⟩)
              have HTh : Hid (∀ W, Below w11.heap.size w11 W → Calls Tryd.prog 54 #[.pointer (some ⟨p, 0, none⟩), .int .i64 (i : Int)] W fun e w' => e = .returned (.bool true) ∧ Below W.heap.size W w') := Lib.hid (fun W hW => (athere_is (i : Int) true HTt W (HPb.out.step hW).nv.nd.ar).mono fun e w' ⟨h1, h2⟩ => ⟨h1, by subst h2; exact Below.refl _ _⟩)
              clear hb hit
              go_region_held3 (fun W => (Below w11.heap.size w11 W ∧ World.cell? W ⟨P, 0, none⟩ = some (.pointer (some ⟨p, 0, none⟩)) ∧ World.cell? W ⟨KG, 0, none⟩ = some (.int .i64 g0) ∧ World.cell? W ⟨KG, 1, none⟩ = some (.int .i64 g1) ∧ World.cell? W ⟨KG, 2, none⟩ = some (.int .i64 g2) ∧ World.cell? W ⟨KG, 3, none⟩ = some (.int .i64 g3) ∧ World.cell? W ⟨KG, 4, none⟩ = some (.int .u32 g4) ∧ World.cell? W ⟨H, i * 80 + j * 5, none⟩ = some (.int .i64 g0) ∧ World.cell? W ⟨H, i * 80 + j * 5 + 1, none⟩ = some (.int .i64 g1) ∧ World.cell? W ⟨H, i * 80 + j * 5 + 2, none⟩ = some (.int .i64 g2) ∧ World.cell? W ⟨H, i * 80 + j * 5 + 3, none⟩ = some (.int .i64 g3) ∧ World.cell? W ⟨H, i * 80 + j * 5 + 4, none⟩ = some (.int .u32 g4))) (first | exact HSA.out _ (Below.refl _ _).drew | exact n64_keep HSA (by assumption) hb) (first
                | (go_at_call 26; (with_reducible refine (samekey_yes g0 g1 g2 g3 g4 _).mono ?_); rintro e w' ⟨rfl, hb⟩)
                | (go_at_call 54; (with_reducible refine (HTh.out _ (And.left (by assumption))).mono ?_); rintro e w' ⟨rfl, hb⟩))
              go_wp2_with fail
              go_meet
              refine ⟨rfl, ?_⟩
              apply And.left
              assumption
          obtain ⟨rfl, hb12⟩ := hcut
          obtain ⟨w12, hw12⟩ : ∃ w12, w12 = wc := ⟨_, rfl⟩
          subst hw12
          have HPc := Lib.hid (HPb.out.step hb12)
          have HMc := Lib.hid (HMb.out.step hb12)
          have HRw3 := Lib.hid (HRw2.out.below hb12)
          clear hb12 HPb HMb HRw2 HKb
          go_upto_region 66 with fail
          go_cut [315] (fun v wx => v = .bool false ∧ Below w12.heap.size w12 wx)
          case first => as_aux_lemma =>
            have HC9 := Lib.hid (HC7.out.mid HNe.out.1 HMc.out)
            have HRw9 := Lib.hid (HRw.out.mid HMc.out)
            cases tt
            · have E : mw2 = 0 := by rw [← HMw2.out]; unfold nlen; rw [HTt.out]; rfl
              subst E
              go_wp2_with (first
                | (go_at_call 49; (with_reducible refine (ncall_any id mw HMw ws HWs _ HC9.out).mono ?_); rintro e w13 ⟨aw3, cw3, rfl, hr, hb⟩; have HRx := Lib.hid hr.ks; have HRwa := Lib.hid (HRw9.out.below hb); have HB13 := Lib.hid hb; clear hr hb)
                | (go_at_call 41; (with_reducible refine (samekeys_yes aw3 aw cw3 cw mw ws (by omega) _ HRx.out HRwa.out).mono ?_); rintro e w14 ⟨rfl, hb⟩; have HB14 := Lib.hid (HB13.out.trans (hb.mono HB13.out.size)); clear hb))
              go_meet
              exact ⟨rfl, HB14.out⟩
            · obtain ⟨i, rfl, hi, hit⟩ := there_nat HTt.out
              have E2 : mw2 = 16 := by rw [← HMw2.out]; unfold nlen; rw [HTt.out]; rfl
              subst E2
              have i0 : (0 : Int) ≤ i := by omega
              have i1 : (i : Int) < 5 := by omega
              have HRh : Hid (KS w12 (some ⟨H, i * 80, none⟩) 16 ws2) := Lib.hid (by
                have h := HPc.out.row i hi
                have e : kk' i = ws2 := by rw [← HWs2.out]; rfl
                rwa [e] at h)
              go_wp2_with (first
                | (go_at_call 41; (with_reducible refine (samekeys_yes aw2 (some ⟨H, i * 80, none⟩) cw2 16 16 ws2 (by omega) _ HRw3.out HRh.out).mono ?_); rintro e w13 ⟨rfl, hb⟩; have HB13 := Lib.hid hb; have HC13 : Hid (NcAt w13 w5.heap.size P2 p2 B2 G2 5 c2 q2 th vr (kW kk)) := Lib.hid (HC7.out.mid HNe.out.1 (HMc.out.step hb)); have HRwa := Lib.hid (HRw9.out.below hb); clear hb)
                | (go_at_call 49; (with_reducible refine (ncall_any (i : Int) mw HMw ws HWs _ HC13.out).mono ?_); rintro e w14 ⟨aw3, cw3, rfl, hr, hb⟩; have HRx := Lib.hid hr.ks; have HRwb := Lib.hid (HRwa.out.below hb); have HB14 := Lib.hid (HB13.out.trans (hb.mono HB13.out.size)); clear hr hb)
                | (go_at_call 41; (with_reducible refine (samekeys_yes aw3 aw cw3 cw mw ws (by omega) _ HRx.out HRwb.out).mono ?_); rintro e w15 ⟨rfl, hb⟩; have HB15 := Lib.hid (HB14.out.trans (hb.mono HB14.out.size)); clear hb))
              go_meet
              exact ⟨rfl, HB15.out⟩
          obtain ⟨rfl, hbz⟩ := hcut
          have HPz := Lib.hid (HPc.out.step hbz)
          clear hbz
          go_wp2_with fail
          go_roundw
          case rel => exact ⟨k + 1, th', vr', kk', by omega, by go_num, HPz.out, fun i hi => by have := HVf.out i hi; omega⟩
          case measure => simp [intOf]; omega
    · obtain rfl : k = len := by omega
      have hdd : decide (k < k) = false := by simp
      go_wp2_with fail
      go_ret
      exact ⟨rfl, HP.out.nv.bel⟩
theorem walk_NodePlays (a0 : Option Addr) (len0 cap0 : Nat) (a1 : Int) (a2 : Int) (w : World) (w0 : Reads Tryd.prog w 105 [.slice a0 len0 cap0]) (w1 : (Lit.int .i64 a1).wf = true) (w2 : (Lit.int .i64 a2).wf = true) (hL : laidMetH Tryd.prog Rows.nodePlaysRow.laid w) :
    Calls Tryd.prog 5 #[.slice a0 len0 cap0, .int .i64 a1, .int .i64 a2] w fun e w' => e = .returned (.bool true) ∧ Below w.heap.size w w' := by
  have hS := (sen_of hL (by intro n hn; simp only [List.mem_cons, List.not_mem_nil, or_false] at hn; rcases hn with rfl | rfl | rfl | rfl | rfl | rfl | rfl | rfl | rfl | rfl | rfl | rfl <;> exact ⟨_, by repeat (first | exact List.Mem.head _ | apply List.Mem.tail)⟩))
  by_cases hl : 60 < len0
  · exact nplays_big a0 len0 cap0 a1 a2 hl _ _ w hS.errs
  · exact nplays_small a0 len0 cap0 a1 a2 (by omega) w w0 _ hS
end Go.Proofs.YtdcdfaeokbdalaaDoor
