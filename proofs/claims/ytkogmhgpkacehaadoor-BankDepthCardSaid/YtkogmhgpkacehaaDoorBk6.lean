/-
  package bank: banks over a memory and domains, as one; count, isFull, ContainsFunc.
-/
import Derived.Test.YtkogmhgpkacehaaDoorBk5
namespace Go.Proofs.YtkogmhgpkacehaaDoor
open Go.ChangeShapes Go.WideShapes Go.ChangeAt Go.RowKit
set_option linter.unusedVariables false
set_option linter.unusedSimpArgs false
/-- Where all of it lies. -/
structure BLoc where
  mb : Nat
  S : Nat
  a : Shp
  b : Shp
  N : Nat
  cb : Nat
  dB : Nat
  dP : Nat
  dp : Nat
  dR : Nat
  dG : Nat
  dQ : Nat
  dn : Nat
  dc : Nat
  bB : Nat
  P : Nat
  p : Nat
  B : Nat
  A : Nat
  G1 : Nat
  G2 : Nat
  G3 : Nat
  n : Nat
  c : Nat
  T : Nat
/-- What it is. -/
structure BSt where
  nt : Nat → Bool
  nv : Nat → Int
  nW : Nat → Nat → Value
  pt : Nat → Bool
  pv : Nat → Int
  pW : Nat → Nat → Int
  dt : Nat → Bool
  dv : Nat → Int
  dW : Nat → Nat → Value
  nb : Nat
  pr : Nat → Int
  us : Nat → Int
  lm : Nat → Int
  o1 : Nat → Int
  v1 : Nat → Int
  o2 : Nat → Int
  v2 : Nat → Int
  o3 : Nat → Int
  v3 : Nat → Int
def BKD (w : World) (L : BLoc) (D : BSt) : Prop := BkAt w L.bB L.P L.p L.B L.A L.G1 L.G2 L.G3 L.n L.c L.mb L.dP (thN D.nb) (fun _ => 0) D.pr D.us D.lm D.o1 D.v1 D.o2 D.v2 D.o3 D.v3
def DMD (w : World) (L : BLoc) (D : BSt) : Prop := DsAt w L.dB L.dP L.dp L.dR L.dG L.dQ L.dn L.dc D.dt D.dv D.dW
def MMD (w0 w : World) (L : BLoc) (D : BSt) : Prop := MemAt w0 w L.mb L.S L.a L.b L.N L.cb 4 D.nt D.nv D.nW D.pt D.pv D.pW 0 (.slice none 0 0) []
/-- Banks over domains over a memory over a law's start. -/
structure BW (w0 w : World) (L : BLoc) (D : BSt) : Prop where
  m : MMD w0 w L D
  d : DMD w L D
  k : BKD w L D
  md : L.mb < L.dB ∧ L.cb < L.dB ∧ L.N ≤ L.dB
  db : L.dP < L.bB ∧ L.dp < L.bB ∧ L.dR < L.bB ∧ L.dG < L.bB ∧ L.dQ < L.bB
  dl : L.dB ≤ L.bB
  pk : PrOk D.nb D.pr
  nn : D.nb ≤ L.n
  tt : L.bB ≤ L.T ∧ L.P < L.T ∧ L.p < L.T ∧ L.B < L.T ∧ L.A < L.T ∧ L.G1 < L.T ∧ L.G2 < L.T ∧ L.G3 < L.T
  tw : L.T ≤ w.heap.size
/-- What lies behind all of it stays. -/
def UpT (T : Nat) (w w' : World) : Prop := w.heap.size ≤ w'.heap.size ∧ ∀ k, T ≤ k → k < w.heap.size → w'.heap[k]? = w.heap[k]?
theorem UpT.refl (T : Nat) (w : World) : UpT T w w := ⟨Nat.le_refl _, fun _ _ _ => rfl⟩
theorem UpT.trans {T : Nat} {w w1 w2 : World} (h : UpT T w w1) (h2 : UpT T w1 w2) : UpT T w w2 := ⟨Nat.le_trans h.1 h2.1, fun k h3 h4 => (h2.2 k h3 (Nat.lt_of_lt_of_le h4 h.1)).trans (h.2 k h3 h4)⟩
theorem UpT.below {T : Nat} {w w1 : World} (h : Below w.heap.size w w1) : UpT T w w1 := ⟨h.size, fun k _ hk => h.block k hk⟩
theorem UpT.grown {T g : Nat} {w w1 : World} (h : w.grownBy w1 (some g)) (hg : g < T) : UpT T w w1 := ⟨h.size, fun k hk hk2 => h.block k hk2 (fun e => by injection e with e; omega)⟩
theorem UpT.pb {T B G : Nat} {w w1 : World} (h : PBelow w w1 B G) (h1 : B < T) (h2 : G < T) : UpT T w w1 := ⟨h.2.2.2.1, fun k hk hk2 => h.2.2.2.2 k hk2 (by omega) (by omega)⟩
section
variable {w0 w w' : World} {L : BLoc} {D D' : BSt}
theorem BW.bel (h : BW w0 w L D) : Below w0.heap.size w0 w := h.m.sv.bel
theorem BW.mn (h : BW w0 w L D) : w0.heap.size ≤ L.N := h.m.n0
theorem BW.bl (h : BW w0 w L D) : L.bB ≤ w.heap.size := Nat.le_of_lt (Nat.lt_of_le_of_lt h.k.pb h.k.pl)
theorem BW.dlow (h : BW w0 w L D) : L.dB ≤ w.heap.size := Nat.le_trans h.dl h.bl
theorem BW.below (h : BW w0 w L D) (hb : Below w.heap.size w w') : BW w0 w' L D := ⟨MemAt.below h.m hb, DsAt.below h.d hb, BkAt.below h.k hb, h.md, h.db, h.dl, h.pk, h.nn, h.tt, Nat.le_trans h.tw hb.size⟩
/-- What lies behind a memory was changed. -/
theorem MMD.low (h : MMD w0 w L D) {M : Nat} (hb : Below M w w') (h1 : L.mb < M) (h2 : L.cb < M) (h3 : L.N ≤ M) : MMD w0 w' L D := by
  have e := hb.block L.mb h1
  exact ⟨⟨h.sv.bel.trans (hb.mono (Nat.le_trans h.n0 h3)), h.sv.wb, h.sv.st.under h.lo hb.size (fun k hk => hb.block k (by omega))⟩, h.lo, h.n0, Nat.le_trans h.nN hb.size, (World.cell?_of_block (a := ⟨L.mb, 0, none⟩) e).trans h.m0, (World.cell?_of_block (a := ⟨L.mb, 1, none⟩) e).trans h.m1, Nat.lt_of_lt_of_le h.ml hb.size, h.mn, h.mo, ⟨h.ca.nb, Nat.lt_of_lt_of_le h.ca.cl hb.size, (World.cell?_of_block (a := ⟨L.cb, 0, none⟩) (hb.block L.cb h2)).trans h.ca.c0, (World.cell?_of_block (a := ⟨L.cb, 1, none⟩) (hb.block L.cb h2)).trans h.ca.c1, (World.cell?_of_block (a := ⟨L.cb, 2, none⟩) (hb.block L.cb h2)).trans h.ca.c2, fun j => (World.frozen?_of_block (a := ⟨L.cb, j, none⟩) (hb.block L.cb h2)).trans (h.ca.fr j), World.ownsRow_nil _ _ _ _, h.ca.ne, fun e he => by cases he⟩, h.ok⟩
theorem RowO.same {base e s n : Nat} {T : TypeId} {G : Nat} {xs : List Value} (h : w.ownsRow base T s (.slice (some ⟨G, 0, none⟩) n n) n xs) (hb : w'.heap[G]? = w.heap[G]?) : w'.ownsRow base T s (.slice (some ⟨G, 0, none⟩) n n) n xs := by
  refine ⟨h.1, ?_⟩
  rcases h.2 with hn | ⟨g', cap, cur, e', hB, hg, rest⟩
  · exact .inl hn
  · refine .inr ⟨g', cap, cur, e', hB, ?_, rest⟩
    simp at e'
    rw [← e'.1, hb, e'.1]; exact hg
theorem DMD.low (h : DMD w L D) {M : Nat} (hb : Below M w w') (h1 : L.dP < M ∧ L.dp < M ∧ L.dR < M ∧ L.dG < M ∧ L.dQ < M) : DMD w' L D := by
  have hP := hb.block L.dP h1.1
  exact ⟨⟨Nat.lt_of_lt_of_le h.pl.pl hb.size, h.pl.pb, (World.cell?_of_block (a := ⟨L.dP, 0, none⟩) hP).trans h.pl.f0, (World.cell?_of_block (a := ⟨L.dP, 1, none⟩) hP).trans h.pl.f1, h.pl.ar.same2 hb.size (hb.block _ h1.2.1) (hb.block _ h1.2.2.1), RowO.same (e := 0) h.pl.row (hb.block _ h1.2.2.2.1), h.pl.n1, h.pl.n2, h.pl.n3, h.pl.n4⟩, (World.cell?_of_block (a := ⟨L.dP, 2, none⟩) hP).trans h.f2, RowO.same (e := 0) h.qs (hb.block _ h1.2.2.2.2), h.q1, h.q2, h.q3⟩
/-- The banks were changed, and nothing else that was there. -/
theorem BW.bank (h : BW w0 w L D) (hk : BKD w' L D') (hb : Below L.bB w w') (h1 : D' = { D with nb := D'.nb, pr := D'.pr, us := D'.us, lm := D'.lm, o1 := D'.o1, v1 := D'.v1, o2 := D'.o2, v2 := D'.v2, o3 := D'.o3, v3 := D'.v3 }) (hp : PrOk D'.nb D'.pr) (hn : D'.nb ≤ L.n) : BW w0 w' L D' := by
  have hm := MMD.low h.m hb (by have := h.md; have := h.dl; omega) (by have := h.md; have := h.dl; omega) (by have := h.md; have := h.dl; omega)
  have hd := DMD.low h.d hb h.db
  refine ⟨?_, ?_, hk, h.md, h.db, h.dl, hp, hn, h.tt, Nat.le_trans h.tw hb.size⟩
  · rw [h1]; exact hm
  · rw [h1]; exact hd
/-- The pages were changed. -/
theorem BW.page (h : BW w0 w L D) {pt' : Nat → Bool} {pv' : Nat → Int} {pW' : Nat → Nat → Int} (hP : PgAt w' L.b.b L.b.P L.b.p L.b.B L.b.G L.b.n L.b.c pt' pv' pW') (hb : PBelow w w' L.b.B L.b.G) : BW w0 w' L { D with pt := pt', pv := pv', pW := pW' } := by
  have hl := h.m.lo.p
  have hmd := h.md
  have hdl := h.dl
  refine ⟨MemAt.page h.m hP hb ways_nil, DsAt.same h.d hb.2.2.2.1 (fun k hk1 hk2 => hb.2.2.2.2 k hk2 (by omega) (by omega)), BkAt.same h.k hb.2.2.2.1 (fun k hk1 hk2 => hb.2.2.2.2 k hk2 (by omega) (by omega)), h.md, h.db, h.dl, h.pk, h.nn, h.tt, Nat.le_trans h.tw hb.2.2.2.1⟩
theorem BW.node (h : BW w0 w L D) {nt' : Nat → Bool} {nv' : Nat → Int} {nW' : Nat → Nat → Value} (hN : NdAt w' L.a.b L.a.P L.a.p L.a.B L.a.G L.a.n L.a.c nt' nv' nW') (hb : PBelow w w' L.a.B L.a.G) : BW w0 w' L { D with nt := nt', nv := nv', nW := nW' } := by
  have hl := h.m.lo.n
  have hmd := h.md
  have hdl := h.dl
  refine ⟨MemAt.node h.m hN hb ways_nil, DsAt.same h.d hb.2.2.2.1 (fun k hk1 hk2 => hb.2.2.2.2 k hk2 (by omega) (by omega)), BkAt.same h.k hb.2.2.2.1 (fun k hk1 hk2 => hb.2.2.2.2 k hk2 (by omega) (by omega)), h.md, h.db, h.dl, h.pk, h.nn, h.tt, Nat.le_trans h.tw hb.2.2.2.1⟩
/-- The domains were changed. -/
theorem BW.doms (h : BW w0 w L D) {dt' : Nat → Bool} {dv' : Nat → Int} {dW' : Nat → Nat → Value} (hD : DsAt w' L.dB L.dP L.dp L.dR L.dG L.dQ L.dn L.dc dt' dv' dW') (hb : PBelow w w' L.dR L.dG) : BW w0 w' L { D with dt := dt', dv := dv', dW := dW' } := by
  have hdb := h.db
  have hmd := h.md
  have hl1 := h.d.pl.ar.lt.1
  have hl2 := h.d.pl.gl.1
  have hb2 : Below L.dB w w' := hb.below hl1 hl2 h.dlow
  exact ⟨MMD.low h.m hb2 hmd.1 hmd.2.1 hmd.2.2, hD, BkAt.same h.k hb.2.2.2.1 (fun k hk1 hk2 => hb.2.2.2.2 k hk2 (by omega) (by omega)), h.md, h.db, h.dl, h.pk, h.nn, h.tt, Nat.le_trans h.tw hb.2.2.2.1⟩
end
theorem chL_nodup {nb : Nat} {pr : Nat → Int} (hp : PrOk nb pr) (hb : nb ≤ 256) : ∀ (q : Nat) (y : Int), y < q → q ≤ nb → (chL pr y).Nodup := by
  intro q
  induction q with
  | zero => intro y hy _; rw [chL_neg pr y (by omega)]; exact List.nodup_nil
  | succ q ih =>
    intro y hy hq
    by_cases h0 : y < 0
    · rw [chL_neg pr y h0]; exact List.nodup_nil
    · obtain ⟨k, rfl⟩ : ∃ k : Nat, y = k := ⟨y.toNat, by omega⟩
      have h := hp k (by omega)
      rw [chL_cons hp k (by omega) hb, List.nodup_cons]
      exact ⟨fun hm => by have := ((chL_bound hp hb k (pr k) (by omega) (by omega)).2 _ hm).2; omega, ih (pr k) (by omega) (by omega)⟩
/-- So many more for each of a list. -/
def addL (us : Nat → Int) (l : List Int) (x : Int) : Nat → Int := fun i => if l.contains (i : Int) = true then us i + x else us i
theorem addL_nil (us : Nat → Int) (x : Int) : addL us [] x = us := by funext i; simp [addL]
theorem addL_snoc (us : Nat → Int) (l : List Int) (q : Nat) (x : Int) (hq : (q : Int) ∉ l) : upd (addL us l x) q (us q + x) = addL us (l ++ [(q : Int)]) x := by
  funext i
  unfold upd addL
  by_cases e : i = q
  · subst e; simp
  · have e2 : ¬ (i : Int) = (q : Int) := by omega
    simp [e, e2]
theorem take_snoc (L : List Int) (k : Nat) (h : k < L.length) : L.take (k + 1) = L.take k ++ [L.getD k 0] := by
  rw [List.take_succ_eq_append_getElem h]
  simp [List.getD, h]
theorem take_notin (L : List Int) (h : L.Nodup) (k : Nat) (hk : k < L.length) : L.getD k 0 ∉ L.take k := by
  intro hm
  have e : L.getD k 0 = L[k] := by simp [List.getD, hk]
  rw [e] at hm
  rw [List.mem_iff_getElem] at hm
  obtain ⟨i, hi, he⟩ := hm
  simp at hi
  rw [List.getElem_take] at he
  exact List.pairwise_iff_getElem.1 h i k (by omega) hk (by omega) he
set_option maxRecDepth 100000 in
set_option maxHeartbeats 1000000 in
theorem bcount_is {base P p B A G1 G2 G3 n c mb db nb : Nat} {pr us lm o1 v1 o2 v2 o3 v3 : Nat → Int} (l : List Int) (k : Nat) (hk : Hid (l.length = k)) (hk1 : k ≤ 1000) (a : Option Addr) (c2 : Nat) (hl : Hid (∀ z, z ∈ l → 0 ≤ z ∧ z < n)) (hnd : Hid (l.Nodup)) (x : Int) (hx : -1000 ≤ x ∧ x ≤ 1000) (hu : Hid (∀ i, i < n → -1000000 ≤ us i ∧ us i ≤ 1000000)) (w : World) (h : BkAt w base P p B A G1 G2 G3 n c mb db (thN nb) (fun _ => 0) pr us lm o1 v1 o2 v2 o3 v3) (hr : ∀ i, i < k → ∃ g, a = some ⟨g, 0, none⟩ ∧ g < w.heap.size ∧ g ≠ A ∧ w.cell? ⟨g, i, none⟩ = some (.int .i64 (l.getD i 0))) :
    Calls Tryd.prog 159 #[.pointer (some ⟨P, 0, none⟩), .slice a k c2, .int .i64 x] w fun e w' => e = .returned (.tuple #[]) ∧ BkAt w' base P p B A G1 G2 G3 n c mb db (thN nb) (fun _ => 0) pr (addL us l x) lm o1 v1 o2 v2 o3 v3 ∧ w.grownBy w' (some A) := by
  have H := Lib.hid h
  have HR := Lib.hid hr
  have hn := h.ar.le
  clear h hr
  go_enter Tryd.func159, Tryd.ntmps159
  go_wp2_with fail
  go_loopw [10] (fun i wr => ∃ j : Nat, j ≤ k ∧ i = .int .i64 j ∧ BkAt wr base P p B A G1 G2 G3 n c mb db (thN nb) (fun _ => 0) pr (addL us (l.take j) x) lm o1 v1 o2 v2 o3 v3 ∧ w.grownBy wr (some A)) (fun i _ => k - (intOf i).toNat)
  case atStart => exact ⟨0, by omega, rfl, by rw [List.take_zero, addL_nil]; exact H.out, ⟨rfl, rfl, rfl, Nat.le_refl _, fun _ _ _ => rfl⟩⟩
  case round =>
    obtain ⟨j, hj, rfl, hB, hg⟩ := hrel
    have HB := Lib.hid hB
    have HG := Lib.hid hg
    clear hB hg
    by_cases hlt : j < k
    · obtain ⟨g, hag, hgl, hgA, hc⟩ := HR.out j hlt
      have hc2 := (World.cell?_of_block (a := ⟨g, j, none⟩) (HG.out.block g hgl (fun e => hgA (by injection e)))).trans hc
      have hjl : j < l.length := by rw [hk.out]; exact hlt
      have hm : l.getD j 0 ∈ l := by simp [List.getD, hjl]
      have hq := hl.out _ hm
      have hni := take_notin l hnd.out j hjl
      have hts := take_snoc l j hjl
      obtain ⟨q, hq0⟩ : ∃ q : Nat, l.getD j 0 = q := ⟨(l.getD j 0).toNat, by omega⟩
      rw [hq0] at hc2 hq hni hts
      have hqn : q < n := by omega
      have hv : addL us (l.take j) x q = us q := by
        unfold addL
        rw [if_neg (by rw [List.contains_iff_mem]; exact hni)]
      have c1 := HB.out.ac1 q hqn
      rw [hv] at c1
      have hu2 := hu.out q hqn
      have f3 := HB.out.f3
      have z1 := HB.out.ac.fr (q * 3 + 1)
      have HS := HB.out.setU q hqn (us q + x)
      rw [addL_snoc us (l.take j) q x hni, ← hts] at HS
      have HS := Lib.hid HS
      have HGS := Lib.hid (grown_more HG.out ((HB.out.ac.set q 1 hqn (by decide) (.int .i64 (us q + x))).2))
      have hwr : IntKind.i64.wrap (us q + x) = us q + x := by rw [IntKind.wrap_i64]; omega
      generalize us q = uq at c1 hwr HS HGS
      have k0 : (0 : Int) ≤ j := by omega
      have k1 : (0 : Int) ≤ q := by omega
      have k2 : (q : Int) < n := by omega
      subst hag
      clear hc hts hni hm hq hq0 hv hu2
      go_wp2_with fail
      go_roundw
      case rel => exact ⟨j + 1, by omega, by go_num, HS.out.1, HGS.out⟩
      case measure => simp [intOf]; omega
    · obtain rfl : j = k := by omega
      have hdd : decide (j < j) = false := by simp
      have HT : Hid (l.take j = l) := Lib.hid (List.take_of_length_le (by rw [hk.out]; exact Nat.le_refl _))
      go_wp2_with fail
      go_end0
      exact ⟨rfl, by rw [← HT.out]; exact HB.out, HG.out⟩
set_option maxRecDepth 100000 in
theorem bfull_is {base P p B A G1 G2 G3 n c mb db nb : Nat} {pr us lm o1 v1 o2 v2 o3 v3 : Nat → Int} (q : Nat) (hq : q < n) (t : Bool) (ht : Hid (decide (lm q ≤ us q) = t)) (w : World) (h : BkAt w base P p B A G1 G2 G3 n c mb db (thN nb) (fun _ => 0) pr us lm o1 v1 o2 v2 o3 v3) :
    Calls Tryd.prog 187 #[.pointer (some ⟨P, 0, none⟩), .int .i64 (q : Int)] w fun e w' => e = .returned (.bool t) ∧ Below w.heap.size w w' := by
  have hd := Lib.hid (h.below (Below.refl w.heap.size w).drew)
  have f3 := h.f3
  have c1 := h.ac1 q hq
  have c2 := h.ac2 q hq
  have ht2 := ht.out
  have k1 : (0 : Int) ≤ q := by omega
  have k2 : (q : Int) < n := by omega
  clear h ht
  generalize us q = x at c1 ht2
  generalize lm q = y at c2 ht2
  go_enter Tryd.func187, Tryd.ntmps187
  go_wp2_with fail
  go_quiet (fail)
  go_wp2_with fail
  go_ret
  exact ⟨rfl, below_drewN (Below.refl _ _) _⟩
end Go.Proofs.YtkogmhgpkacehaaDoor
