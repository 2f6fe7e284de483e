/-
  package bank: is one of a chain full; pageOf; what Page takes; buy.
-/
import Derived.Test.YtkogmhgpkacehaaDoorBk6
namespace Go.Proofs.YtkogmhgpkacehaaDoor
open Go.ChangeShapes Go.WideShapes Go.ChangeAt Go.RowKit
set_option linter.unusedVariables false
set_option linter.unusedSimpArgs false
abbrev fnFullV (P : Nat) : Value := .func (.func 187) #[.pointer (some ⟨P, 0, none⟩)] #[]
section
variable {w0 w w' : World} {L : BLoc} {D : BSt}
theorem BW.kk (h : BW w0 w L D) : BkAt w L.bB L.P L.p L.B L.A L.G1 L.G2 L.G3 L.n L.c L.mb L.dP (thN D.nb) (fun _ => 0) D.pr D.us D.lm D.o1 D.v1 D.o2 D.v2 D.o3 D.v3 := h.k
theorem BW.dd (h : BW w0 w L D) : DsAt w L.dB L.dP L.dp L.dR L.dG L.dQ L.dn L.dc D.dt D.dv D.dW := h.d
theorem BW.mm (h : BW w0 w L D) : MemAt w0 w L.mb L.S L.a L.b L.N L.cb 4 D.nt D.nv D.nW D.pt D.pv D.pW 0 (.slice none 0 0) [] := h.m
theorem BW.n256 (h : BW w0 w L D) : L.n ≤ 256 := h.kk.ar.le
theorem BW.pn (h : BW w0 w L D) : L.b.n ≤ 256 := h.mm.sv.st.pg.ar.le
theorem BW.an (h : BW w0 w L D) : L.a.n ≤ 256 := h.mm.sv.st.nd.ar.le
theorem BW.dn256 (h : BW w0 w L D) : L.dn ≤ 256 := h.dd.pl.ar.le
theorem BW.lowT (h : BW w0 w L D) : L.mb < L.T ∧ L.S < L.T ∧ L.a.B < L.T ∧ L.a.G < L.T ∧ L.b.B < L.T ∧ L.b.G < L.T ∧ L.cb < L.T ∧ L.dR < L.T ∧ L.dG < L.T := by
  have h1 := h.mm.lo
  have h2 := h.md
  have h3 := h.dl
  have h4 := h.tt
  have h5 := h.db
  have h6 := h1.s
  have h7 := h1.n
  have h8 := h1.p
  omega
end
/-- A row of numbers that was made behind it all stays. -/
theorem rowT {w1 : World} {T M0 : Nat} {v : Value} {l : List Int} {a : Option Addr} {m c : Nat} (hr : w1.ownsRow M0 3 1 v l.length (l.map (Value.int .i64))) (hv : v = .slice a m c) (hm : l.length = m) (hT : T ≤ M0) (W : World) (hu : UpT T w1 W) : ∀ i, i < m → ∃ g, a = some ⟨g, 0, none⟩ ∧ T ≤ g ∧ g < W.heap.size ∧ W.cell? ⟨g, i, none⟩ = some (.int .i64 (l.getD i 0)) := by
  intro i hi
  obtain ⟨a', c', hv', ha⟩ := own_ints hr
  rw [hv] at hv'
  have e1 : a = a' := by injection hv'
  obtain ⟨g, hg, hc, hB, hlt⟩ := ha (by omega)
  rw [← e1] at hg
  exact ⟨g, hg, by omega, Nat.lt_of_lt_of_le hlt hu.1, (World.cell?_of_block (a := ⟨g, i, none⟩) (hu.2 g (by omega) hlt)).trans (hc i (by omega))⟩
def fullB (us lm : Nat → Int) (z : Int) : Bool := decide (lm z.toNat ≤ us z.toNat)
set_option maxRecDepth 100000 in
set_option maxHeartbeats 1000000 in
theorem bidx_no {base P p B A G1 G2 G3 n c mb db nb : Nat} {pr us lm o1 v1 o2 v2 o3 v3 : Nat → Int} (l : List Int) (k : Nat) (hk : Hid (l.length = k)) (hk1 : k ≤ 1000) (a : Option Addr) (c2 : Nat) (hl : Hid (∀ z, z ∈ l → 0 ≤ z ∧ z < n)) (hno : Hid (∀ i, i < k → fullB us lm (l.getD i 0) = false)) (w : World) (h : BkAt w base P p B A G1 G2 G3 n c mb db (thN nb) (fun _ => 0) pr us lm o1 v1 o2 v2 o3 v3) (hr : ∀ i, i < k → ∃ g, a = some ⟨g, 0, none⟩ ∧ g < w.heap.size ∧ w.cell? ⟨g, i, none⟩ = some (.int .i64 (l.getD i 0))) :
    Calls Tryd.prog 202 #[.slice a k c2, fnFullV P] w fun e w' => e = .returned (.int .i64 (-1)) ∧ Below w.heap.size w w' := by
  have H := Lib.hid h
  have HR := Lib.hid hr
  clear h hr
  go_enter Tryd.func202, Tryd.ntmps202
  go_wp2_with fail
  go_loopw [8] (fun i wr => ∃ j : Nat, j ≤ k ∧ i = .int .i64 j ∧ Below w.heap.size w wr) (fun i _ => k - (intOf i).toNat)
  case atStart => exact ⟨0, by omega, rfl, Below.refl _ _⟩
  case round =>
    obtain ⟨j, hj, rfl, hB⟩ := hrel
    have HB := Lib.hid hB
    by_cases hlt : j < k
    · obtain ⟨g, hag, hgl, hc⟩ := HR.out j hlt
      have hc2 := (hB.cell (p := ⟨g, j, none⟩) hgl).trans hc
      have hm : l.getD j 0 ∈ l := by have := hk.out; simp [List.getD, show j < l.length by omega]
      have hq := hl.out _ hm
      have hf := hno.out j hlt
      obtain ⟨q, hq0⟩ : ∃ q : Nat, l.getD j 0 = q := ⟨(l.getD j 0).toNat, by omega⟩
      rw [hq0] at hc2 hq hf
      have HF : Hid (decide (lm q ≤ us q) = false) := Lib.hid hf
      have hqn : q < n := by omega
      subst hag
      have k0 : (0 : Int) ≤ j := by omega
      clear hB hc hm hq hq0 hf
      go_wp2_with (first | (go_at_call 187; (with_reducible refine (bfull_is q hqn false HF _ (H.out.below HB.out)).mono ?_); rintro e w1 ⟨rfl, hb⟩; have HB2 := Lib.hid (HB.out.trans (hb.mono HB.out.size)); clear hb hc2))
      go_roundw
      case rel => exact ⟨j + 1, by omega, by go_num, HB2.out⟩
      case measure => simp [intOf]; omega
    · obtain rfl : j = k := by omega
      have hdd : decide (j < j) = false := by simp
      clear hB
      go_wp2
      go_ret
      exact ⟨rfl, HB.out⟩
set_option maxRecDepth 100000 in
set_option maxHeartbeats 1000000 in
theorem bidx_yes {base P p B A G1 G2 G3 n c mb db nb : Nat} {pr us lm o1 v1 o2 v2 o3 v3 : Nat → Int} (l : List Int) (k : Nat) (hk : Hid (l.length = k)) (hk1 : k ≤ 1000) (a : Option Addr) (c2 : Nat) (hl : Hid (∀ z, z ∈ l → 0 ≤ z ∧ z < n)) (s : Nat) (hs : s < k) (hno : Hid (∀ i, i < s → fullB us lm (l.getD i 0) = false)) (hyes : Hid (fullB us lm (l.getD s 0) = true)) (w : World) (h : BkAt w base P p B A G1 G2 G3 n c mb db (thN nb) (fun _ => 0) pr us lm o1 v1 o2 v2 o3 v3) (hr : ∀ i, i < k → ∃ g, a = some ⟨g, 0, none⟩ ∧ g < w.heap.size ∧ w.cell? ⟨g, i, none⟩ = some (.int .i64 (l.getD i 0))) :
    Calls Tryd.prog 202 #[.slice a k c2, fnFullV P] w fun e w' => e = .returned (.int .i64 s) ∧ Below w.heap.size w w' := by
  have H := Lib.hid h
  have HR := Lib.hid hr
  clear h hr
  go_enter Tryd.func202, Tryd.ntmps202
  go_wp2_with fail
  go_loopw [8] (fun i wr => ∃ j : Nat, j ≤ s ∧ i = .int .i64 j ∧ Below w.heap.size w wr) (fun i _ => k - (intOf i).toNat)
  case atStart => exact ⟨0, by omega, rfl, Below.refl _ _⟩
  case round =>
    obtain ⟨j, hj, rfl, hB⟩ := hrel
    have HB := Lib.hid hB
    have hlt : j < k := by omega
    obtain ⟨g, hag, hgl, hc⟩ := HR.out j hlt
    have hc2 := (hB.cell (p := ⟨g, j, none⟩) hgl).trans hc
    have hm : l.getD j 0 ∈ l := by have := hk.out; simp [List.getD, show j < l.length by omega]
    have hq := hl.out _ hm
    obtain ⟨q, hq0⟩ : ∃ q : Nat, l.getD j 0 = q := ⟨(l.getD j 0).toNat, by omega⟩
    rw [hq0] at hc2 hq
    have hqn : q < n := by omega
    subst hag
    have k0 : (0 : Int) ≤ j := by omega
    by_cases hjs : j < s
    · have hf := hno.out j hjs
      rw [hq0] at hf
      have HF : Hid (decide (lm q ≤ us q) = false) := Lib.hid hf
      clear hB hc hm hq hq0 hf
      go_wp2_with (first | (go_at_call 187; (with_reducible refine (bfull_is q hqn false HF _ (H.out.below HB.out)).mono ?_); rintro e w1 ⟨rfl, hb⟩; have HB2 := Lib.hid (HB.out.trans (hb.mono HB.out.size)); clear hb hc2))
      go_roundw
      case rel => exact ⟨j + 1, by omega, by go_num, HB2.out⟩
      case measure => simp [intOf]; omega
    · obtain rfl : j = s := by omega
      have hf := hyes.out
      rw [hq0] at hf
      have HF : Hid (decide (lm q ≤ us q) = true) := Lib.hid hf
      clear hB hc hm hq hq0 hf
      go_wp2_with (first | (go_at_call 187; (with_reducible refine (bfull_is q hqn true HF _ (H.out.below HB.out)).mono ?_); rintro e w1 ⟨rfl, hb⟩; have HB2 := Lib.hid (HB.out.trans (hb.mono HB.out.size)); clear hb hc2))
      go_ret
      exact ⟨rfl, HB2.out⟩
set_option maxRecDepth 100000 in
theorem bcf_is {base P p B A G1 G2 G3 n c mb db nb : Nat} {pr us lm o1 v1 o2 v2 o3 v3 : Nat → Int} (l : List Int) (k : Nat) (hk : Hid (l.length = k)) (hk1 : k ≤ 1000) (a : Option Addr) (c2 : Nat) (hl : Hid (∀ z, z ∈ l → 0 ≤ z ∧ z < n)) (t : Bool) (ht : Hid (l.any (fullB us lm) = t)) (w : World) (h : BkAt w base P p B A G1 G2 G3 n c mb db (thN nb) (fun _ => 0) pr us lm o1 v1 o2 v2 o3 v3) (hr : ∀ i, i < k → ∃ g, a = some ⟨g, 0, none⟩ ∧ g < w.heap.size ∧ w.cell? ⟨g, i, none⟩ = some (.int .i64 (l.getD i 0))) :
    Calls Tryd.prog 186 #[.slice a k c2, fnFullV P] w fun e w' => e = .returned (.bool t) ∧ Below w.heap.size w w' := by
  have hkl := hk.out
  rcases first_at (fun i => fullB us lm (l.getD i 0)) k with hno | ⟨s, hs, hy, hno⟩
  · have ht0 : t = false := by
      rw [← ht.out, List.any_eq_false]
      intro z hz
      obtain ⟨i, hi, rfl⟩ := (mem_getD l z).1 hz
      rw [hno i (by omega)]
      decide
    subst ht0
    have HC := Lib.hid (bidx_no l k hk hk1 a c2 hl (Lib.hid hno) w h hr)
    clear h hr hno ht hkl
    go_enter Tryd.func186, Tryd.ntmps186
    go_wp2_with (first | (go_at_call 202; (with_reducible refine HC.out.mono ?_); rintro e w1 ⟨rfl, hb⟩; have HB := Lib.hid hb; clear hb))
    go_ret
    exact ⟨rfl, HB.out⟩
  · have ht1 : t = true := by
      rw [← ht.out, List.any_eq_true]
      exact ⟨l.getD s 0, (mem_getD l _).2 ⟨s, by omega, rfl⟩, hy⟩
    subst ht1
    have HC := Lib.hid (bidx_yes l k hk hk1 a c2 hl s hs (Lib.hid hno) (Lib.hid hy) w h hr)
    have s0 : decide ((0 : Int) ≤ (s : Int)) = true := decide_eq_true (by omega)
    clear h hr hno hy ht hkl
    go_enter Tryd.func186, Tryd.ntmps186
    go_wp2_with (first | (go_at_call 202; (with_reducible refine HC.out.mono ?_); rintro e w1 ⟨rfl, hb⟩; have HB := Lib.hid hb; clear hb))
    go_ret
    exact ⟨rfl, HB.out⟩
set_option maxRecDepth 100000 in
theorem bpageof_ok (a : Option Addr) (m c2 : Nat) (xs : List Int) (hm : Hid (xs.length = m)) (hx : m ≤ 32) (w : World) (hs : ∀ B G, w.heap.size ≤ B → w.heap.size ≤ G → SrcU w a xs B G) :
    Calls Tryd.prog 149 #[.slice a m c2] w fun e w' => e = .returned .nilIface ∧ Below w.heap.size w w' := by
  have HS := Lib.hid hs
  clear hs
  go_enter Tryd.func149, Tryd.ntmps149
  go_wp2_with (first
    | (go_at_call 115; (with_reducible refine (pnew_ok 1 1 (Lib.hid rfl) (by decide) (by decide) _).mono ?_); rintro e w1 ⟨P, p, B, G, rfl, hP, hb⟩; have HP := Lib.hid hP; have HB := Lib.hid hb; have HS1 : Hid (SrcU w1 a xs B G) := Lib.hid ⟨fun j hj => by obtain ⟨ad, h1, h2, h3, h4, h5⟩ := (HS.out B G hP.ar.lt.1 (hP.row.lt G rfl).1).src j hj; exact ⟨ad, h1, Nat.lt_of_lt_of_le h2 hb.size, h3, h4, (hb.cell (p := ad.add j) (by rw [add_block']; exact h2)).trans h5⟩⟩; clear hP hb)
    | (go_at_call 34; (with_reducible refine (pmake_at 0 a m c2 xs hm hx 0 (Lib.hid rfl) (by decide) (Lib.hid (by decide)) (Lib.hid (by intro i hi; omega)) 0 (Lib.hid rfl) _ HP.out HS1.out).mono ?_); rintro e w2 ⟨rfl, hP2, hb2⟩; have HB2 := Lib.hid (HB.out.trans (hb2.below (b := w.heap.size) HP.out.ar.lt.1 (HP.out.row.lt G rfl).1 HB.out.size)); clear hP2 hb2))
  go_ret
  exact ⟨rfl, HB2.out⟩
set_option maxRecDepth 100000 in
set_option maxHeartbeats 1000000 in
theorem bpgcl_ok {w0 : World} {L : BLoc} {D : BSt} (x y : Nat) (a : Option Addr) (m c2 : Nat) (xs : List Int) (hm : Hid (xs.length = m)) (hx : m ≤ 32) (j : Nat) (hj : j < L.b.n) (hyes : Hid (freeB D.pt D.pv j = true)) (hno : Hid (∀ i, i < j → freeB D.pt D.pv i = false)) (v : Int) (hv : Hid (D.pv j = v)) (w : World) (h : BW w0 w L D) (hxy : L.T ≤ x ∧ x < w.heap.size ∧ L.T ≤ y ∧ y < w.heap.size) (cx : w.cell? ⟨x, 0, none⟩ = some (.pointer (some ⟨L.P, 0, none⟩))) (cy : w.cell? ⟨y, 0, none⟩ = some (.slice a m c2)) (hs : SrcU w a xs L.b.B L.b.G) :
    Calls Tryd.prog 150 #[.pointer (some ⟨x, 0, none⟩), .pointer (some ⟨y, 0, none⟩)] w fun e w' => e = .returned (.tuple #[.int .i64 j, .int .i64 v, .nilIface]) ∧ BW w0 w' L { D with pt := upd D.pt j true, pW := fresh D.pW j xs } ∧ PBelow w w' L.b.B L.b.G := by
  obtain ⟨wD, hwD⟩ : ∃ wD, wD = w.drew := ⟨_, rfl⟩
  have hbD : Below w.heap.size w wD := by rw [hwD]; exact (Below.refl _ _).drew
  have HD := Lib.hid (h.below hbD)
  have HSr : Hid (SrcU wD a xs L.b.B L.b.G) := Lib.hid ⟨fun q hq => by obtain ⟨ad, h1, h2, h3, h4, h5⟩ := hs.src q hq; exact ⟨ad, h1, Nat.lt_of_lt_of_le h2 hbD.size, h3, h4, (hbD.cell (p := ad.add q) (by rw [add_block']; exact h2)).trans h5⟩⟩
  have HBD := Lib.hid (PBelow.of_below (B := L.b.B) (G := L.b.G) hbD)
  have HS7 : Hid (∀ W, BW w0 W L { D with pt := upd D.pt j true, pW := fresh D.pW j xs } → UpT L.T w W → (World.cell? W ⟨x, 0, none⟩ = some (.pointer (some ⟨L.P, 0, none⟩)) ∧ World.cell? W ⟨L.P, 1, none⟩ = some (.pointer (some ⟨L.mb, 0, none⟩)) ∧ World.cell? W ⟨L.mb, 0, none⟩ = some (.pointer (some ⟨L.S, 0, none⟩)) ∧ World.cell? W ⟨L.S, 1, none⟩ = some (.pointer (some ⟨L.b.P, 0, none⟩)) ∧ World.cell? W ⟨y, 0, none⟩ = some (.slice a m c2))) := Lib.hid (fun W hW hu => ⟨(World.cell?_of_block (a := ⟨x, 0, none⟩) (hu.2 x hxy.1 hxy.2.1)).trans cx, hW.kk.f1, hW.mm.m0, hW.mm.sv.st.s1, (World.cell?_of_block (a := ⟨y, 0, none⟩) (hu.2 y hxy.2.2.1 hxy.2.2.2)).trans cy⟩)
  have hS0 : (World.cell? wD ⟨x, 0, none⟩ = some (.pointer (some ⟨L.P, 0, none⟩)) ∧ World.cell? wD ⟨L.P, 1, none⟩ = some (.pointer (some ⟨L.mb, 0, none⟩)) ∧ World.cell? wD ⟨L.mb, 0, none⟩ = some (.pointer (some ⟨L.S, 0, none⟩)) ∧ World.cell? wD ⟨L.S, 1, none⟩ = some (.pointer (some ⟨L.b.P, 0, none⟩)) ∧ World.cell? wD ⟨y, 0, none⟩ = some (.slice a m c2)) := ⟨(hbD.cell (p := ⟨x, 0, none⟩) hxy.2.1).trans cx, HD.out.kk.f1, HD.out.mm.m0, HD.out.mm.sv.st.s1, (hbD.cell (p := ⟨y, 0, none⟩) hxy.2.2.2).trans cy⟩
  have HLT := Lib.hid h.lowT
  clear h hs cx cy hbD
  go_enter Tryd.func150, Tryd.ntmps150
  go_upto_region 1 with fail
  refine wp_region_noPanic ?_
  refine wp_region_held_drew (S := fun w' => (World.cell? w' ⟨x, 0, none⟩ = some (.pointer (some ⟨L.P, 0, none⟩)) ∧ World.cell? w' ⟨L.P, 1, none⟩ = some (.pointer (some ⟨L.mb, 0, none⟩)) ∧ World.cell? w' ⟨L.mb, 0, none⟩ = some (.pointer (some ⟨L.S, 0, none⟩)) ∧ World.cell? w' ⟨L.S, 1, none⟩ = some (.pointer (some ⟨L.b.P, 0, none⟩)) ∧ World.cell? w' ⟨y, 0, none⟩ = some (.slice a m c2))) (by kernel_rfl) (by rw [← hwD]; exact hS0) (fun hHeld => ?_)
  rw [← hwD] at hHeld ⊢
  clear hwD hS0
  refine wpAnyH_take (i := 0) (v := ?_) (by rfl) (by kernel_rfl) (by kernel_rfl) (by kernel_rfl) (fun _ _ _ h => h) (Or.inl ⟨by kernel_rfl, ?_⟩) (by assumption) ?_; rotate_left 1; (focus (intro w hSw; (try dsimp only at hSw); simp only [List.getElem_toArray, List.getElem_cons_succ, List.getElem_cons_zero]; all_goals go_simp; all_goals (try with_reducible rfl))); (try simp only [Act.put, List.getElem_toArray, List.getElem_cons_succ, List.getElem_cons_zero, List.setIfInBounds_toArray, List.set_cons_zero, List.set_cons_succ])
  refine wpAnyH_take (i := 1) (v := ?_) (by rfl) (by kernel_rfl) (by kernel_rfl) (by kernel_rfl) (fun _ _ _ h => h) (Or.inl ⟨by kernel_rfl, ?_⟩) (by assumption) ?_; rotate_left 1; (focus (intro w hSw; (try dsimp only at hSw); simp only [List.getElem_toArray, List.getElem_cons_succ, List.getElem_cons_zero]; all_goals go_simp; all_goals (try with_reducible rfl))); (try simp only [Act.put, List.getElem_toArray, List.getElem_cons_succ, List.getElem_cons_zero, List.setIfInBounds_toArray, List.set_cons_zero, List.set_cons_succ])
  refine wpAnyH_take (i := 2) (v := ?_) (by rfl) (by kernel_rfl) (by kernel_rfl) (by kernel_rfl) (fun _ _ _ h => h) (Or.inl ⟨by kernel_rfl, ?_⟩) (by assumption) ?_; rotate_left 1; (focus (intro w hSw; (try dsimp only at hSw); simp only [List.getElem_toArray, List.getElem_cons_succ, List.getElem_cons_zero]; all_goals go_simp; all_goals (try with_reducible rfl))); (try simp only [Act.put, List.getElem_toArray, List.getElem_cons_succ, List.getElem_cons_zero, List.setIfInBounds_toArray, List.set_cons_zero, List.set_cons_succ])
  refine wpAnyH_take (i := 3) (v := ?_) (by rfl) (by kernel_rfl) (by kernel_rfl) (by kernel_rfl) (fun _ _ _ h => h) (Or.inl ⟨by kernel_rfl, ?_⟩) (by assumption) ?_; rotate_left 1; (focus (intro w hSw; (try dsimp only at hSw); simp only [List.getElem_toArray, List.getElem_cons_succ, List.getElem_cons_zero]; all_goals go_simp; all_goals (try with_reducible rfl))); (try simp only [Act.put, List.getElem_toArray, List.getElem_cons_succ, List.getElem_cons_zero, List.setIfInBounds_toArray, List.set_cons_zero, List.set_cons_succ])
  refine wpAnyH_take (i := 4) (v := ?_) (by rfl) (by kernel_rfl) (by kernel_rfl) (by kernel_rfl) (fun _ _ _ h => h) (Or.inl ⟨by kernel_rfl, ?_⟩) (by assumption) ?_; rotate_left 1; (focus (intro w hSw; (try dsimp only at hSw); simp only [List.getElem_toArray, List.getElem_cons_succ, List.getElem_cons_zero]; all_goals go_simp; all_goals (try with_reducible rfl))); (try simp only [Act.put, List.getElem_toArray, List.getElem_cons_succ, List.getElem_cons_zero, List.setIfInBounds_toArray, List.set_cons_zero, List.set_cons_succ])
  refine wpAnyH_take (i := 5) (v := ?_) (by rfl) (by kernel_rfl) (by kernel_rfl) (by kernel_rfl) (fun _ _ _ h => h) (Or.inl ⟨by kernel_rfl, ?_⟩) (by assumption) ?_; rotate_left 1; (focus (intro w hSw; (try dsimp only at hSw); simp only [List.getElem_toArray, List.getElem_cons_succ, List.getElem_cons_zero]; all_goals go_simp; all_goals (try with_reducible rfl))); (try simp only [Act.put, List.getElem_toArray, List.getElem_cons_succ, List.getElem_cons_zero, List.setIfInBounds_toArray, List.set_cons_zero, List.set_cons_succ])
  refine wpAnyH_take (i := 6) (v := ?_) (by rfl) (by kernel_rfl) (by kernel_rfl) (by kernel_rfl) (fun _ _ _ h => h) (Or.inl ⟨by kernel_rfl, ?_⟩) (by assumption) ?_; rotate_left 1; (focus (intro w hSw; (try dsimp only at hSw); simp only [List.getElem_toArray, List.getElem_cons_succ, List.getElem_cons_zero]; all_goals go_simp; all_goals (try with_reducible rfl))); (try simp only [Act.put, List.getElem_toArray, List.getElem_cons_succ, List.getElem_cons_zero, List.setIfInBounds_toArray, List.set_cons_zero, List.set_cons_succ])
  refine wpAnyH_take (i := 7) (v := ?_) (by rfl) (by kernel_rfl) (by kernel_rfl) (by kernel_rfl) (fun _ _ _ h => h) (Or.inl ⟨by kernel_rfl, ?_⟩) (by assumption) ?_; rotate_left 1; (focus (intro w hSw; (try dsimp only at hSw); simp only [List.getElem_toArray, List.getElem_cons_succ, List.getElem_cons_zero]; all_goals go_simp; all_goals (try with_reducible rfl))); (try simp only [Act.put, List.getElem_toArray, List.getElem_cons_succ, List.getElem_cons_zero, List.setIfInBounds_toArray, List.set_cons_zero, List.set_cons_succ])
  refine wpAnyH_take (i := 8) (v := ?_) (by rfl) (by kernel_rfl) (by kernel_rfl) (by kernel_rfl) (fun _ _ _ h => h) (Or.inl ⟨by kernel_rfl, ?_⟩) (by assumption) ?_; rotate_left 1; (focus (intro w hSw; (try dsimp only at hSw); simp only [List.getElem_toArray, List.getElem_cons_succ, List.getElem_cons_zero]; all_goals go_simp; all_goals (try with_reducible rfl))); (try simp only [Act.put, List.getElem_toArray, List.getElem_cons_succ, List.getElem_cons_zero, List.setIfInBounds_toArray, List.set_cons_zero, List.set_cons_succ])
  refine wpAnyH_take (i := 9) (v := ?_) (by rfl) (by kernel_rfl) (by kernel_rfl) (by kernel_rfl) (fun _ _ _ h => h) (Or.inl ⟨by kernel_rfl, ?_⟩) (by assumption) ?_; rotate_left 1; (focus (intro w hSw; (try dsimp only at hSw); simp only [List.getElem_toArray, List.getElem_cons_succ, List.getElem_cons_zero]; all_goals go_simp; all_goals (try with_reducible rfl))); (try simp only [Act.put, List.getElem_toArray, List.getElem_cons_succ, List.getElem_cons_zero, List.setIfInBounds_toArray, List.set_cons_zero, List.set_cons_succ])
  refine wpAnyH_take (i := 10) (v := ?_) (by rfl) (by kernel_rfl) (by kernel_rfl) (by kernel_rfl) (fun _ _ _ h => h) (Or.inl ⟨by kernel_rfl, ?_⟩) (by assumption) ?_; rotate_left 1; (focus (intro w hSw; (try dsimp only at hSw); simp only [List.getElem_toArray, List.getElem_cons_succ, List.getElem_cons_zero]; all_goals go_simp; all_goals (try with_reducible rfl))); (try simp only [Act.put, List.getElem_toArray, List.getElem_cons_succ, List.getElem_cons_zero, List.setIfInBounds_toArray, List.set_cons_zero, List.set_cons_succ])
  refine wpAnyH_ready (rs := [11]) (by kernel_rfl) (by simp) ?_; refine AllReadyH.cons (by rfl) (fun K hK => ?_) AllReadyH.nil; rw [if_pos (by kernel_rfl)]; simp only [List.getElem_toArray, List.getElem_cons_succ, List.getElem_cons_zero]
  go_wp2_with (first
    | (go_at_call 34; (with_reducible refine (pmake_ok a m c2 xs hm hx j hj hyes hno v hv _ HD.out.mm.sv.st.pg HSr.out).mono ?_); rintro e w2 ⟨rfl, hP2, hb2⟩; have HB2 := Lib.hid (HBD.out.trans hb2); have HW2 := Lib.hid (HD.out.page hP2 hb2); clear hP2 hb2))
  refine hK.out _ _ (HS7.out _ HW2.out (UpT.pb HB2.out (by have := HLT.out; omega) (by have := HLT.out; omega))) (fun hHeld => ?_)
  clear hK K
  (try simp only [Act.put, List.getElem_toArray, List.getElem_cons_succ, List.getElem_cons_zero, List.setIfInBounds_toArray, List.set_cons_zero, List.set_cons_succ])
  refine wpAnyH_take (i := 12) (v := ?_) (by rfl) (by kernel_rfl) (by kernel_rfl) (by kernel_rfl) (fun _ _ _ h => h) (Or.inl ⟨by kernel_rfl, ?_⟩) (by assumption) ?_; rotate_left 1; (focus (intro w hSw; (try dsimp only at hSw); simp only [List.getElem_toArray, List.getElem_cons_succ, List.getElem_cons_zero]; all_goals go_simp; all_goals (try with_reducible rfl))); (try simp only [Act.put, List.getElem_toArray, List.getElem_cons_succ, List.getElem_cons_zero, List.setIfInBounds_toArray, List.set_cons_zero, List.set_cons_succ])
  refine wpAnyH_take (i := 13) (v := ?_) (by rfl) (by kernel_rfl) (by kernel_rfl) (by kernel_rfl) (fun _ _ _ h => h) (Or.inl ⟨by kernel_rfl, ?_⟩) (by assumption) ?_; rotate_left 1; (focus (intro w hSw; (try dsimp only at hSw); simp only [List.getElem_toArray, List.getElem_cons_succ, List.getElem_cons_zero]; all_goals go_simp; all_goals (try with_reducible rfl))); (try simp only [Act.put, List.getElem_toArray, List.getElem_cons_succ, List.getElem_cons_zero, List.setIfInBounds_toArray, List.set_cons_zero, List.set_cons_succ])
  refine wpAnyH_take (i := 14) (v := ?_) (by rfl) (by kernel_rfl) (by kernel_rfl) (by kernel_rfl) (fun _ _ _ h => h) (Or.inl ⟨by kernel_rfl, ?_⟩) (by assumption) ?_; rotate_left 1; (focus (intro w hSw; (try dsimp only at hSw); simp only [List.getElem_toArray, List.getElem_cons_succ, List.getElem_cons_zero]; all_goals go_simp; all_goals (try with_reducible rfl))); (try simp only [Act.put, List.getElem_toArray, List.getElem_cons_succ, List.getElem_cons_zero, List.setIfInBounds_toArray, List.set_cons_zero, List.set_cons_succ])
  refine wpAnyH_take (i := 15) (v := ?_) (by rfl) (by kernel_rfl) (by kernel_rfl) (by kernel_rfl) (fun _ _ _ h => h) (Or.inl ⟨by kernel_rfl, ?_⟩) (by assumption) ?_; rotate_left 1; (focus (intro w hSw; (try dsimp only at hSw); simp only [List.getElem_toArray, List.getElem_cons_succ, List.getElem_cons_zero]; all_goals go_simp; all_goals (try with_reducible rfl))); (try simp only [Act.put, List.getElem_toArray, List.getElem_cons_succ, List.getElem_cons_zero, List.setIfInBounds_toArray, List.set_cons_zero, List.set_cons_succ])
  refine wpAnyH_take (i := 16) (v := ?_) (by rfl) (by kernel_rfl) (by kernel_rfl) (by kernel_rfl) (fun _ _ _ h => h) (Or.inl ⟨by kernel_rfl, ?_⟩) (by assumption) ?_; rotate_left 1; (focus (intro w hSw; (try dsimp only at hSw); simp only [List.getElem_toArray, List.getElem_cons_succ, List.getElem_cons_zero]; all_goals go_simp; all_goals (try with_reducible rfl))); (try simp only [Act.put, List.getElem_toArray, List.getElem_cons_succ, List.getElem_cons_zero, List.setIfInBounds_toArray, List.set_cons_zero, List.set_cons_succ])
  refine wpAnyH_take (i := 17) (v := ?_) (by rfl) (by kernel_rfl) (by kernel_rfl) (by kernel_rfl) (fun _ _ _ h => h) (Or.inl ⟨by kernel_rfl, ?_⟩) (by assumption) ?_; rotate_left 1; (focus (intro w hSw; (try dsimp only at hSw); simp only [List.getElem_toArray, List.getElem_cons_succ, List.getElem_cons_zero]; all_goals go_simp; all_goals (try with_reducible rfl))); (try simp only [Act.put, List.getElem_toArray, List.getElem_cons_succ, List.getElem_cons_zero, List.setIfInBounds_toArray, List.set_cons_zero, List.set_cons_succ])
  refine wpAnyH_done (by kernel_rfl) ?_ _
  refine NoPanic.normal ?_
  go_wp2_with fail
  go_ret3
  exact ⟨rfl, HW2.out, HB2.out⟩
end Go.Proofs.YtkogmhgpkacehaaDoor
