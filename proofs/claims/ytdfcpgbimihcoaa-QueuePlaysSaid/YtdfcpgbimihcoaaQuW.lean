/-
  QueuePlays.
-/
import Derived.Test.YtdfcpgbimihcoaaQuP
import Derived.Deep.CutBlock
import Derived.Deep.AppendLies
namespace Go.Proofs.Ytdfcpgbimihcoaa
open Go.ChangeShapes Go.WideShapes Go.ChangeAt Go.RowKit Go.Maps
set_option linter.unusedVariables false
theorem cell_in {w : World} {a : Addr} {v : Value} (h : w.cell? a = some v) : a.block < w.heap.size := by
  rcases Nat.lt_or_ge a.block w.heap.size with h' | h'
  · exact h'
  · simp [World.cell?, Array.getElem?_eq_none h'] at h
theorem add_more (ad : Addr) (i j : Nat) : ad.add (i + (j + 1)) = ⟨(ad.add i).block, (ad.add i).off + (j + 1), none⟩ := by
  rw [← Go.Deep.add_add]
  rfl
/-- One thing that a queue is told. -/
structure DoAt (w : World) (ad : Addr) (kd n : Int) (a : Option Addr) (m c : Nat) (zs : List Int) : Prop where
  c0 : w.cell? ad = some (.int .i64 kd)
  c1 : w.cell? ⟨ad.block, ad.off + 1, none⟩ = some (.int .i64 n)
  c2 : w.cell? ⟨ad.block, ad.off + 2, none⟩ = some (.slice a m c)
  wk : wfI kd
  wn : wfI n
  ln : zs.length = m
  ri : RI w a zs
  vs : ∀ x ∈ zs, wfI x
  mm : m ≤ 9223372036854775807
theorem DoAt.below {w w' : World} {ad : Addr} {kd n : Int} {a : Option Addr} {m c : Nat} {zs : List Int} (h : DoAt w ad kd n a m c zs) (hb : Below w.heap.size w w') : DoAt w' ad kd n a m c zs :=
  ⟨(hb.cell (p := ad) (cell_in h.c0)).trans h.c0, (hb.cell (p := ⟨ad.block, ad.off + 1, none⟩) (show ad.block < _ from cell_in h.c0)).trans h.c1, (hb.cell (p := ⟨ad.block, ad.off + 2, none⟩) (show ad.block < _ from cell_in h.c0)).trans h.c2, h.wk, h.wn, h.ln, h.ri.below hb, h.vs, h.mm⟩
theorem do_at {w : World} {a0 : Option Addr} {len cap : Nat} (h : Reads Try.prog w 22 [.slice a0 len cap]) (i : Nat) (hi : i < len) : ∃ x kd n a m c zs, a0 = some x ∧ DoAt w (x.add (i * 3)) kd n a m c zs := by
  rcases h.slice Try.underlying22 with ⟨_, h0, _⟩ | ⟨x, rfl, hl, hm, hall⟩
  · omega
  · obtain ⟨cs, hcl, hat, hr⟩ := hall i (by omega)
    have e3 : Try.prog.cellsOf 29 = 3 := by kernel_rfl
    rw [e3] at hcl hat
    obtain ⟨v0, g0, r0⟩ := hr.cell Try.underlying29 0 _ rfl (by kernel_rfl) (by rw [e3]; decide)
    obtain ⟨v1, g1, r1⟩ := hr.cell Try.underlying29 1 _ rfl (by kernel_rfl) (by rw [e3]; decide)
    obtain ⟨v2, g2, r2⟩ := hr.cell Try.underlying29 2 _ rfl (by kernel_rfl) (by rw [e3]; decide)
    obtain ⟨kd, e0, k0⟩ := r0.int Try.underlying3
    obtain ⟨n, e1, k1⟩ := r1.int Try.underlying3
    obtain ⟨a, m, c, rfl⟩ := r2.slice' Try.underlying24
    obtain ⟨z0, hz⟩ := r2.ints Try.underlying24 Try.underlying3 (by kernel_rfl)
    obtain ⟨zs, z1, z2, z3, z4⟩ := ri_row hz
    simp only [List.cons.injEq, and_true] at e0 e1
    subst e0 e1
    have a0 := hat 0 _ g0
    have a1 := hat 1 _ g1
    have a2 := hat 2 _ g2
    rw [Nat.add_zero] at a0
    rw [add_more x (i * 3) 0] at a1
    rw [add_more x (i * 3) 1] at a2
    exact ⟨x, kd, n, a, m, c, zs, rfl, a0, a1, a2, k0, k1, z1, z2, z3, z4⟩
/-- The law's state: the queue, and the row of those that ought to be in it. -/
structure PQ (W w : World) (q b : Nat) (l lh : List Int) (S : Nat → Prop) (v : Value) : Prop where
  qv : QV W w q q b l S
  row : w.ownsRow W.heap.size 3 1 v lh.length (lh.map (Value.int .i64))
  ns : ∀ g, v.ownBlock = some g → ¬ S g
section
variable {W w w' : World} {q b : Nat} {l lh : List Int} {S S' : Nat → Prop} {v v' : Value}
theorem PQ.step (h : PQ W w q b l lh S v) (hb : Below w.heap.size w w') : PQ W w' q b l lh S v :=
  ⟨h.qv.step hb, own_same h.row (fun g hg => hb.block g (h.row.lt g hg).2), h.ns⟩
theorem PQ.turn {b' : Nat} {l' : List Int} (h : PQ W w q b l lh S v) (hq : QI w' q q b' l' S') (hf : QFr w w' S S') : PQ W w' q b' l' lh S' v :=
  ⟨h.qv.turn hq hf, own_same h.row (fun g hg => (hf.block g (h.row.lt g hg).2 (h.ns g hg)).1), fun g hg => (hf.block g (h.row.lt g hg).2 (h.ns g hg)).2⟩
theorem PQ.more {n : Nat} (h : PQ W w q b l lh S v) (hn : lh.length = n) (o : Obj) (x : Int) (hr : w'.ownsRow W.heap.size 3 1 v' (n + 1) (lh.map (Value.int .i64) ++ [.int .i64 x])) (hg : (w.alloc o).grownBy w' v.ownBlock) (hloc : v'.ownBlock = v.ownBlock ∨ v'.ownBlock = some (w.alloc o).heap.size) : PQ W w' q b l (lh ++ [x]) S v' := by
  subst hn
  refine ⟨(h.qv.step ((Below.refl _ _).alloc (Nat.le_refl _) o)).grow hg (fun g e => ⟨h.ns g e, (h.row.lt g e).1⟩), by simpa using hr, fun g e => ?_⟩
  rcases hloc with e2 | e2
  · exact h.ns g (e2 ▸ e)
  · rw [e2] at e
    injection e with e
    intro hs
    have := h.qv.qi.hi g hs
    simp at e
    omega
theorem row_base {B B' : Nat} {n : Nat} {xs : List Value} (h : w.ownsRow B 3 1 v n xs) (hb : B' ≤ B) : w.ownsRow B' 3 1 v n xs := by
  refine ⟨h.1, ?_⟩
  rcases h.2 with h0 | ⟨g, cap, cur, hv, hB, rest⟩
  · exact .inl h0
  · exact .inr ⟨g, cap, cur, hv, Nat.le_trans hb hB, rest⟩
/-- Those that ought to be in it, in a new row. -/
theorem PQ.fresh {n : Nat} {l' : List Int} (h : PQ W w q b l lh S v) (hb : Below w.heap.size w w') (hr : w'.ownsRow w.heap.size 3 1 v' n (l'.map (Value.int .i64))) (hn : l'.length = n) : PQ W w' q b l l' S v' := by
  subst hn
  refine ⟨h.qv.step hb, row_base hr h.qv.bel.size, fun g e hs => ?_⟩
  have := h.qv.qi.hi g hs
  have := (hr.lt g e).1
  omega
theorem PQ.ri {n c : Nat} {a : Option Addr} (h : PQ W w q b l lh S (.slice a n c)) (hn : lh.length = n) : RI w a lh := by
  have := h.row
  rw [hn] at this
  exact own_ri this hn
theorem PQ.form {n : Nat} (h : PQ W w q b l lh S v) (hn : lh.length = n) : ∃ a c, v = .slice a n c := by
  subst hn
  exact owns_any h.row
theorem PQ.row' {n : Nat} (h : PQ W w q b l lh S v) (hn : lh.length = n) : w.ownsRow W.heap.size 3 1 v n (lh.map (Value.int .i64)) := by
  subst hn
  exact h.row
end
/-- What is told lies in a block of its own. -/
structure DkAt (w : World) (dk : Nat) (kd nn : Int) (da : Option Addr) (m c : Nat) : Prop where
  lt : dk < w.heap.size
  c0 : w.cell? ⟨dk, 0, none⟩ = some (.int .i64 kd)
  c1 : w.cell? ⟨dk, 1, none⟩ = some (.int .i64 nn)
  c2 : w.cell? ⟨dk, 2, none⟩ = some (.slice da m c)
section
variable {w w' : World} {dk m c : Nat} {kd nn : Int} {da : Option Addr}
theorem DkAt.same (h : DkAt w dk kd nn da m c) (hb : w'.heap[dk]? = w.heap[dk]?) (hs : w.heap.size ≤ w'.heap.size) : DkAt w' dk kd nn da m c :=
  ⟨Nat.lt_of_lt_of_le h.lt hs, (World.cell?_of_block (a := ⟨dk, 0, none⟩) hb).trans h.c0, (World.cell?_of_block (a := ⟨dk, 1, none⟩) hb).trans h.c1, (World.cell?_of_block (a := ⟨dk, 2, none⟩) hb).trans h.c2⟩
theorem DkAt.below (h : DkAt w dk kd nn da m c) (hb : Below w.heap.size w w') : DkAt w' dk kd nn da m c := h.same (hb.block dk h.lt) hb.size
theorem DkAt.turn {S S' : Nat → Prop} (h : DkAt w dk kd nn da m c) (hf : QFr w w' S S') (hS : ¬ S dk) : DkAt w' dk kd nn da m c := h.same (hf.block dk h.lt hS).1 hf.size
theorem DkAt.grown {row : Option Nat} {o : Obj} (h : DkAt w dk kd nn da m c) (hg : (w.alloc o).grownBy w' row) (hr : row ≠ some dk) : DkAt w' dk kd nn da m c := by
  have h1 := h.below ((Below.refl w.heap.size w).alloc (Nat.le_refl _) o)
  exact h1.same (hg.block dk h1.lt (fun e => hr e.symm)) hg.size
theorem DkAt.new (w : World) (kd nn : Int) (da : Option Addr) (m c : Nat) (T : TypeId) : DkAt (w.alloc (.cells #[.int .i64 kd, .int .i64 nn, .slice da m c] T)) w.heap.size kd nn da m c := ⟨by simp, by simp, by simp, by simp⟩
end
section
variable {P : Program}
/-- append at a step of a region that draws: onto a row of the call's own that is not nil, of whatever number of elements. -/
theorem step_append_some {ops : Array Oper} {o : Oper} {a : Act} {K : Act → World → Prop} {Q : Exit → Act → World → Prop} {E : Prop} (w : World) (hgd : o.guard = none) (s x : Operand) (t : TypeId)
    (ho : o.op = .call { callee := .builtin .append, args := #[s, x], argTypes := #[t, t] })
    (base : Nat) (e : TypeId) (i : TypeInfo) (z : Value) (size bytes : Nat) (ht : P.underlying t = some (.slice e)) (hi : P.info? e = some i) (hz : i.zero = some z)
    (hsize : i.size = size) (hby : i.bytes = bytes) (hzs : z.cells.size = size) (hsz : 0 < size)
    (g0 n c0 : Nat) (xs : List Value) (hs : a.eval s = .slice (some ⟨g0, 0, none⟩) n c0) (hown : w.ownsRow base e size (.slice (some ⟨g0, 0, none⟩) n c0) n xs)
    (ad : Addr) (m c : Nat) (news : List Value) (hx : a.eval x = .slice (some ad) m c) (hl : news.length = m * size) (hnews : ∀ j u, news[j]? = some u → w.cell? (ad.add j) = some u) (h1 : ∀ u ∈ news, u.oneCell' = true)
    (h63 : n + m ≤ maxLen) (hbytes : (n + m) * bytes ≤ 140737488355328) (hbase : base ≤ w.heap.size)
    (h : ∀ g cap w', w'.ownsRow base e size (.slice (some ⟨g, 0, none⟩) (n + m) cap) (n + m) (xs ++ news) → w.grownBy w' (some g0) → K (a.put o.dst (.slice (some ⟨g, 0, none⟩) (n + m) cap)) w') :
    if Region.wanted o (yielded ops a.tmps) = true then Oper.wp P o a w K Q else E := by
  have hw : Region.wanted o (yielded ops a.tmps) = true := by simp [Region.wanted, hgd]
  rw [if_pos hw]
  obtain ⟨v', w', hr, h2, h3, h4, h5⟩ := run_append_own_at (P := P) w base t o.type e i z size bytes ht hi hz hsize hby hzs hsz _ n xs hown ad m c news hl hnews h1 h63 hbytes hbase
  rcases h2.2 with ⟨hv, h0⟩ | ⟨g, cap, cur, rfl, _⟩
  · have := h4.1 hv
    simp at this
  · unfold Oper.wp execOp
    simp only [ho, resolve, invoke, builtin, Sem.run_bind, Sem.run_pure, Result.andThen_ok, List.map_toArray, List.map_cons, List.map_nil, hs, hx, hr]
    exact h g cap w' h2 h3
end
theorem qdrop_no' {W w : World} {base q b : Nat} {l : List Int} {S : Nat → Prop} (x : Int) (hx : wfI x) (hno : Hid (l.contains x = false)) (h : QV W w base q b l S) :
    Calls Try.prog 13 #[.pointer (some ⟨q, 0, none⟩), .int .i64 x] w fun e w' => e = .returned (.bool false) ∧ Below w.heap.size w w' := by
  have H := Lib.hid h
  clear h
  go_enter Try.func13, Try.ntmps13
  go_wp2_with (first | (go_at_call 17; (with_reducible refine (qhas_is x hx false hno _ H.out.qi).mono ?_); rintro e w2 ⟨rfl, h2⟩; have H2 := Lib.hid h2; clear h2))
  go_ret
  exact ⟨rfl, H2.out⟩
theorem bel_al {W X : World} (h : Below W.heap.size W X) (o : Obj) : Below W.heap.size W (X.alloc o) := h.alloc h.size o
theorem bel_gr {W X Y : World} {g : Nat} (h : Below W.heap.size W X) (hg : X.grownBy Y (some g)) (hr : W.heap.size ≤ g) : Below W.heap.size W Y := h.grown hg h.size (fun k hk => by injection hk with e; omega)
set_option maxRecDepth 100000 in
theorem qplays_big (a : Option Addr) (len cap : Nat) (ask : Int) (hl : 80 < len) (w : World) :
    Calls Try.prog 3 #[.slice a len cap, .int .i64 ask] w fun e w' => e = .returned (.bool true) ∧ Below w.heap.size w w' := by
  have hd : decide ((80 : Int) < (len : Int)) = true := by simp; omega
  go_enter Try.func3, Try.ntmps3
  go_wp2_with (first
    | (go_at_call 8; refine (qfirst_is _).mono ?_; rintro e w1 ⟨rfl, hb1⟩; have HB1 := Lib.hid hb1; clear hb1))
  go_ret
  exact ⟨rfl, HB1.out⟩
set_option maxRecDepth 100000 in
set_option maxHeartbeats 8000000 in
theorem qplays_small (a : Option Addr) (len cap : Nat) (ask : Int) (hask : wfI ask) (hl : len ≤ 80) (w : World) (hr : Reads Try.prog w 22 [.slice a len cap]) :
    Calls Try.prog 3 #[.slice a len cap, .int .i64 ask] w fun e w' => e = .returned (.bool true) ∧ Below w.heap.size w w' := by
  have hd : decide ((80 : Int) < (len : Int)) = false := by simp; omega
  have HR := Lib.hid hr
  obtain ⟨i0, hi, hz0, hz1, hz2⟩ := info_parts infoInt
  have HI := Lib.hid (⟨hi, hz0, hz1, hz2⟩ : Try.prog.info? 3 = some i0 ∧ i0.zero = some (.int .i64 0) ∧ i0.size = 1 ∧ i0.bytes = 8)
  clear hr hi hz0 hz1 hz2
  go_enter Try.func3, Try.ntmps3
  go_wp2_with (first
    | (go_at_call 8; refine (qfirst_is _).mono ?_; rintro e w1 ⟨rfl, hb1⟩; have HQ0 := Lib.hid (QV.begun hb1); clear hb1))
  obtain ⟨q, hq⟩ : ∃ q, q = w1.heap.size := ⟨_, rfl⟩
  have HE0 : Hid (PQ w (w1.alloc (.cells #[.slice none 0 0, .map none] 27)) q 0 [] [] (SN q) (.slice none 0 0)) := Lib.hid ⟨by rw [hq]; exact HQ0.out, World.ownsRow_nil _ _ _ _, fun g e => by cases e⟩
  rw [← hq]
  clear hq HQ0
  go_loopw [7, 8] (fun v i wr => ∃ (k b : Nat) (l : List Int) (S : Nat → Prop), k ≤ len ∧ i = .int .i64 k ∧ b ≤ 10 * k ∧ l.length ≤ 10 * k ∧ PQ w wr q b l l S v) (fun _ i _ => len - (intOf i).toNat)
  case atStart => exact ⟨0, 0, [], _, by omega, rfl, by omega, by simp, HE0.out⟩
  case round =>
    obtain ⟨k, b, l, S, hk, rfl, hb, hll, hP⟩ := hrel
    have HP := Lib.hid hP
    clear hP
    have hle0 : l.length ≤ 800 := by omega
    have hb0 : b ≤ 800 := by omega
    by_cases hlt : k < len
    · obtain ⟨x, kd, nn, da, m, c, zs, rfl, hD⟩ := do_at HR.out k hlt
      have HD0 := Lib.hid hD
      have k0 : (0 : Int) ≤ k := by omega
      have k1 : (k : Int) < len := by omega
      obtain ⟨d0, d1, d2, _, hwn, _, _, _, _⟩ := hD.below HP.out.qv.bel
      have HZ := Lib.hid hD.ln
      obtain ⟨dk, hdk⟩ : ∃ dk, dk = wr.heap.size := ⟨_, rfl⟩
      obtain ⟨w5, hw5⟩ : ∃ w5, w5 = wr.alloc (.cells #[.int .i64 kd, .int .i64 nn, .slice da m c] 29) := ⟨_, rfl⟩
      have HDQ := Lib.hid hdk
      have HWQ := Lib.hid hw5
      have HP5 : Hid (PQ w w5 q b l l S u7) := Lib.hid (by rw [hw5]; exact HP.out.step ((Below.refl _ _).alloc (Nat.le_refl _) _))
      have HDK : Hid (DkAt w5 dk kd nn da m c) := Lib.hid (by rw [hdk, hw5]; exact DkAt.new _ _ _ _ _ _ _)
      have HS0 : Hid (¬ S dk) := Lib.hid (fun hs => by have := HP.out.qv.qi.hi _ hs; omega)
      have HV0 : Hid (u7.ownBlock ≠ some dk) := Lib.hid (fun e => by have := (HP.out.row.lt _ e).2; omega)
      clear hD hdk hw5
      by_cases hm : 10 < m
      · have dm : decide ((10 : Int) < (m : Int)) = true := by simp; omega
        have HB5 : Hid (Below w.heap.size w (wr.alloc (.cells #[.int .i64 kd, .int .i64 nn, .slice da m c] 29))) := Lib.hid (by rw [← HWQ.out]; exact HP5.out.qv.bel)
        go_wp2_with fail
        go_ret
        exact ⟨rfl, HB5.out⟩
      · have dm : decide ((10 : Int) < (m : Int)) = false := by simp; omega
        go_upto_region 14 with fail
        rw [← HDQ.out, ← HWQ.out]
        clear HDQ HWQ HP d0 d1 d2
        have e0 := HDK.out.c0
        have e1 := HDK.out.c1
        have e2 := HDK.out.c2
        by_cases hk1 : kd = 1
        · obtain rfl := hk1
          go_wp2_with fail
          go_loopw [7, 10, 11] (fun v cnt z wx => ∃ (j : Nat) (lh : List Int), j ≤ m ∧ z = .int .i64 j ∧ lh = putAll l (zs.take j) ∧ cnt = .int .i64 ((lh.length : Int) - l.length) ∧ PQ w wx q b l lh S v ∧ DkAt wx dk 1 nn da m c ∧ v.ownBlock ≠ some dk) (fun _ _ z _ => m - (intOf z).toNat)
          case atStart => exact ⟨0, l, by omega, rfl, rfl, by simp, HP5.out, HDK.out, HV0.out⟩
          case round =>
            obtain ⟨j, lh, hj, rfl, hlh, rfl, hP, hDk, hvd⟩ := hrel
            have HPj := Lib.hid hP
            have HDj := Lib.hid hDk
            have HLH := Lib.hid hlh
            have HVD := Lib.hid hvd
            have hle : l.length ≤ lh.length ∧ lh.length ≤ l.length + j := by
              rw [hlh]
              have := putAll_len l (zs.take j)
              have e : (zs.take j).length ≤ j := List.length_take_le _ _
              omega
            obtain ⟨hle1, hle2⟩ := hle
            have e2 := hDk.c2
            obtain ⟨n, HN⟩ : ∃ n, Hid (lh.length = n) := ⟨_, Lib.hid rfl⟩
            obtain ⟨ha, hc, hv⟩ := hP.form HN.out
            subst hv
            rw [HN.out] at hle1 hle2 ⊢
            clear hP hDk hlh hvd
            by_cases hlt2 : j < m
            · have hjz : j < zs.length := by rw [HZ.out]; exact hlt2
              obtain ⟨ad, had, hb1, hc1⟩ := (HD0.out.ri.below HPj.out.qv.bel) j hjz
              have hx : wfI (zs.getD j 0) := HD0.out.vs _ (by simp [List.getD, hjz])
              have HX : Hid (zs.take (j + 1) = zs.take j ++ [zs.getD j 0]) := Lib.hid (take_succ' zs j hjz)
              subst had
              generalize zs.getD j 0 = x at hc1 hx HX
              have j0 : (0 : Int) ≤ j := by omega
              have j1 : (j : Int) < m := by omega
              clear hb1 hjz
              cases hin : lh.contains x
              · have HIn := Lib.hid hin
                clear hin
                go_wp2_with (first
                  | (go_at_call 9; (with_reducible refine (among_is ha hc n lh HN (by omega) x false HIn _ (HPj.out.ri HN.out)).mono ?_); rintro e w7 ⟨rfl, hb⟩; have HP7 := Lib.hid (HPj.out.step hb); have HD7 := Lib.hid (HDj.out.below hb); have e7 := HD7.out.c2; have hc7 := (hb.cell (p := ad.add j) (cell_in hc1)).trans hc1; have HB7 := Lib.hid (HP7.out.qv.bel.size); clear hb hc1 e2)
                  | (at_builtin; refine wpList_append_own_at _ rfl _ _ 24 rfl w.heap.size 3 i0 (.int .i64 0) 1 8 Try.underlying24 HI.out.1 HI.out.2.1 HI.out.2.2.1 HI.out.2.2.2 rfl (by decide) (.slice ha n hc) n _ rfl ((HP7.out.row' HN.out).alloc _) ⟨w7.heap.size, 0, none⟩ 1 1 [.int .i64 x] rfl rfl (cell_one_new _ _ _) (ints_oneCell .i64 [x]) (by unfold maxLen; omega) (by omega) (by have := HB7.out; simp; omega) ?_; intro v2 w8 hrow hg3 hnil hloc; have HP8 := Lib.hid (HP7.out.more HN.out _ x hrow hg3 hloc); have HD8 := Lib.hid (HD7.out.grown hg3 HVD.out); have HV8 : Hid (v2.ownBlock ≠ some dk) := Lib.hid (fun e => by have h1 := HVD.out; have h2 := HD7.out.lt; rcases hloc with e2 | e2; exact h1 (e2 ▸ e); (rw [e2] at e; injection e with e; simp at e; omega)); clear hrow hg3 hnil hloc))
                go_roundw
                case rel => exact ⟨j + 1, lh ++ [x], by omega, by go_num, by rw [HX.out, putAll_snoc, ← HLH.out, if_neg (by rw [HIn.out]; simp)], cnt_step _ _ _ (by simp [HN.out]), HP8.out, HD8.out, HV8.out⟩
                case measure => simp [intOf]; omega
              · have HIn := Lib.hid hin
                clear hin
                go_wp2_with (first
                  | (go_at_call 9; (with_reducible refine (among_is ha hc n lh HN (by omega) x true HIn _ (HPj.out.ri HN.out)).mono ?_); rintro e w7 ⟨rfl, hb⟩; have HP7 := Lib.hid (HPj.out.step hb); have HD7 := Lib.hid (HDj.out.below hb); clear hb))
                go_roundw
                case rel => exact ⟨j + 1, lh, by omega, by go_num, by rw [HX.out, putAll_snoc, ← HLH.out, if_pos HIn.out], by rw [HN.out], HP7.out, HD7.out, HVD.out⟩
                case measure => simp [intOf]; omega
            · obtain rfl : j = m := by omega
              have hdd : decide (j < j) = false := by simp
              have HL2 : Hid (putAll l zs = lh) := Lib.hid (by rw [HLH.out, List.take_of_length_le (by rw [HZ.out]; exact Nat.le_refl _)])
              have HNf := HN
              obtain ⟨tf, HTf⟩ : ∃ tf, Hid (lh.contains ask = tf) := ⟨_, Lib.hid rfl⟩
              go_wp2_with (first
                | (go_at_call 10; (with_reducible refine (qput_is da j c zs HZ (by omega) (by omega) (by omega) ((n : Int) - l.length) (Lib.hid (by rw [HL2.out, HN.out])) _ HPj.out.qv.qi (src_arg HPj.out.qv HD0.out.ri HD0.out.vs) HPj.out.qv.bs).mono ?_); rintro e w9 ⟨S9, rfl, h9, f9⟩; rw [HL2.out] at h9; have HP9 := Lib.hid (HPj.out.turn h9 f9); clear h9 f9)
                | (go_at_call 15; (with_reducible refine (qall_v HP9.out.qv HNf (by omega)).mono ?_); rintro e wa ⟨aa, ca, rfl, hra, hba⟩; have HRa := Lib.hid hra; have HPa := Lib.hid (HP9.out.step hba); clear hra hba) | (go_at_call 14; (with_reducible refine (sameints_yes aa ha ca hc n lh HNf (by omega) _ (own_ri HRa.out HNf.out) (HPa.out.ri HNf.out)).mono ?_); rintro e wb ⟨rfl, hbb⟩; have HPb := Lib.hid (HPa.out.step hbb); clear hbb) | (go_at_call 16; (with_reducible refine (qlen_v HPb.out.qv n HNf).mono ?_); rintro e wc ⟨rfl, rfl⟩) | (go_at_call 17; (with_reducible refine (qhas_is ask hask tf HTf _ HPb.out.qv.qi).mono ?_); rintro e wd ⟨rfl, hbd⟩; have HPd := Lib.hid (HPb.out.step hbd); clear hbd) | (go_at_call 9; (with_reducible refine (among_is ha hc n lh HNf (by omega) ask tf HTf _ (HPd.out.ri HNf.out)).mono ?_); rintro e we ⟨rfl, hbe⟩; have HPe := Lib.hid (HPd.out.step hbe); clear hbe))
              go_roundw
              case rel => exact ⟨k + 1, b + j, lh, S9, by omega, by go_num, by omega, by rw [HN.out]; omega, HPe.out⟩
              case measure => simp [intOf]; omega
        · have t1 : (kd == 1) = false := by simpa using hk1
          obtain ⟨n, HN⟩ : ∃ n, Hid (l.length = n) := ⟨_, Lib.hid rfl⟩
          have hn8 : n ≤ 800 := by rw [← HN.out]; exact hle0
          obtain ⟨ha, hc, hv⟩ := HP5.out.form HN.out
          subst hv
          by_cases hk2 : kd = 2
          · obtain rfl := hk2
            by_cases hl0 : n = 0
            · obtain rfl := hl0
              have hl1 : l = [] := List.length_eq_zero_iff.1 HN.out
              subst hl1
              go_wp2_with (first
                | (go_at_call 11; (with_reducible refine (qpick_none nn _ HP5.out.qv.qi).mono ?_); rintro e w6 ⟨rfl, rfl⟩))
              go_roundw
              case rel => exact ⟨k + 1, b, [], S, by omega, by go_num, by omega, by simp, HP5.out⟩
              case measure => simp [intOf]; omega
            · have hn0 : 0 < n := by omega
              obtain ⟨g, rfl⟩ : ∃ g, ha = some ⟨g, 0, none⟩ := by
                obtain ⟨g, c', hv⟩ := owns_slice (HP5.out.row' HN.out) hn0
                simp at hv
                exact ⟨g, hv.1⟩
              have x0 := Int.emod_nonneg nn (show (n : Int) ≠ 0 by omega)
              have x1 := Int.emod_lt_of_pos nn (show (0 : Int) < n by omega)
              obtain ⟨r, hr⟩ : ∃ r : Nat, nn % (n : Int) = r := ⟨(nn % (n : Int)).toNat, by omega⟩
              have HRr := Lib.hid hr
              have hrn : r < n := by omega
              obtain ⟨y, HY⟩ : ∃ y, Hid (l.getD r 0 = y) := ⟨_, Lib.hid rfl⟩
              have hw1 := hwn.fit.1
              have hw2 := hwn.fit.2
              have r0 : (0 : Int) ≤ r := by omega
              have r1 : (r : Int) < n := by omega
              have dn : decide ((0 : Int) < (n : Int)) = true := by simp; omega
              clear x0 x1 hr
              go_wp2_with (first
                | (go_at_call 11; (with_reducible refine (qpick_some nn hw1 hw2 HN hn0 (by omega) r HRr y HY _ HP5.out.qv.qi).mono ?_); rintro e w6 ⟨rfl, S6, h6, f6⟩; have HP6 := Lib.hid (HP5.out.turn h6 f6); have HD6 := Lib.hid (HDK.out.turn f6 HS0.out); have e6 := HD6.out.c1; have hc6 : w6.cell? ⟨g, r, none⟩ = some (.int .i64 y) := (by rw [(HP6.out.row' HN.out).cellAt r (by omega), ← HY.out]; have : r < l.length := (by rw [HN.out]; exact hrn); simp [List.getD, this]); clear h6 f6 e0 e1 e2)
                | (go_at_call 12; (with_reducible refine (number_is nn n r (by omega) (by omega) hw1 hw2 HRr _).mono ?_); rintro e w7 ⟨rfl, rfl⟩))
              have hR6 := HP6.out.row' HN.out
              have hcap : n ≤ hc ∧ hc ≤ 9223372036854775807 := by
                rcases hR6.2 with ⟨h', _⟩ | ⟨g', cap', cur, h', hb, hg, hnc, hcm, hcs, htake⟩
                · simp at h'
                · simp only [Value.slice.injEq, Option.some.injEq, Addr.mk.injEq, and_true, true_and] at h'
                  obtain ⟨rfl, rfl⟩ := h'
                  exact ⟨hnc, by unfold maxLen at hcm; omega⟩
              obtain ⟨hcap1, hcap2⟩ := hcap
              have r2 : (r : Int) ≤ hc := by omega
              have r3 : (r : Int) + 1 ≤ n := by omega
              have r4 : (n : Int) ≤ hc := by omega
              have HR6 := Lib.hid hR6
              have hg6 := (hR6.lt g rfl).2
              have HC1 : Hid (∀ X : World, Below w6.heap.size w6 X → ∀ j u, ((l.take r).map (Value.int .i64))[j]? = some u → X.cell? (Addr.add ⟨g, 0, none⟩ j) = some u) := Lib.hid (fun X hX j u hj => by
                have hjl : j < r := by
                  have := (List.getElem?_eq_some_iff.1 hj).1
                  simp at this
                  omega
                rw [(show Addr.add ⟨g, 0, none⟩ j = ⟨g, j, none⟩ by (simp [Addr.add]; exact fun h => h.symm)), hX.cell (p := ⟨g, j, none⟩) hg6, HR6.out.cellAt j (by omega)]
                simp [hjl] at hj
                simpa using hj)
              obtain ⟨adL, hadL⟩ : ∃ adL : Addr, adL = if hc = r + 1 then ⟨g, 0, none⟩ else ⟨g, r + 1, none⟩ := ⟨_, rfl⟩
              have hsl : ∀ W, (Instr.sliceAt 24 (.slice (some ⟨g, 0, none⟩) n hc) (some (.int .i64 ((r : Int) + 1))) none none).run Try.prog W = .ok (.slice (some adL) (n - (r + 1)) (hc - (r + 1))) W := fun W => by
                have hel : Try.prog.elem 24 = 3 := by kernel_rfl
                have ht : Try.prog.underlying 24 = some (.slice (Try.prog.elem 24)) := by rw [hel]; exact Try.underlying24
                have e1 : ((r : Int) + 1).toNat = r + 1 := by omega
                have hsz : (sizeOf 3).run Try.prog W = .ok 1 W := by kernel_rfl
                rw [run_sliceAt_slice W _ _ _ _ _ ht, run_slice_l W _ _ _ _ ht .i64 ((r : Int) + 1) (by omega) (by omega), hel, hsz, Result.andThen, e1]
                unfold sliced
                rw [hadL]
                by_cases h : hc = r + 1
                · rw [if_pos h, if_pos h]
                · rw [if_neg h, if_neg h]
                  simp [Addr.add]
              have HC2 : Hid (∀ X : World, Below w6.heap.size w6 X → ∀ j u, ((l.drop (r + 1)).map (Value.int .i64))[j]? = some u → X.cell? (adL.add j) = some u) := Lib.hid (fun X hX j u hj => by
                have hjl : j < n - (r + 1) := by
                  have := (List.getElem?_eq_some_iff.1 hj).1
                  simp [HN.out] at this
                  omega
                rw [hadL, if_neg (by omega), (show Addr.add ⟨g, r + 1, none⟩ j = ⟨g, r + 1 + j, none⟩ by (unfold Addr.add; split <;> simp_all)), hX.cell (p := ⟨g, r + 1 + j, none⟩) hg6, HR6.out.cellAt (r + 1 + j) (by omega)]
                simpa using hj)
              have HL1 : Hid (((l.take r).map (Value.int .i64)).length = r * 1) := Lib.hid (by simp [HN.out]; omega)
              have HL2 : Hid (((l.drop (r + 1)).map (Value.int .i64)).length = (n - (r + 1)) * 1) := Lib.hid (by simp [HN.out])
              have HO1 : Hid (∀ u ∈ (l.take r).map (Value.int .i64), u.oneCell' = true) := Lib.hid (ints_oneCell .i64 _)
              have HO2 : Hid (∀ u ∈ (l.drop (r + 1)).map (Value.int .i64), u.oneCell' = true) := Lib.hid (ints_oneCell .i64 _)
              have hwr : IntKind.i64.wrap ((r : Int) + 1) = (r : Int) + 1 := by rw [IntKind.wrap_i64]; omega
              clear hR6 hg6 hc6 e6 hadL
              have HOwn : Hid ((w6.drew.alloc (.cells #[] 3)).ownsRow w6.heap.size 3 1 (.slice (some ⟨w6.heap.size, 0, none⟩) 0 0) 0 []) := Lib.hid ⟨rfl, .inr ⟨w6.heap.size, 0, #[], rfl, Nat.le_refl _, heap_alloc_new _ _, by decide, by decide, by rfl, by rfl⟩⟩
              have HZZ : Hid (([] ++ (l.take r).map (Value.int .i64)) ++ (l.drop (r + 1)).map (Value.int .i64) = (l.eraseIdx r).map (Value.int .i64)) := Lib.hid (by rw [List.eraseIdx_eq_take_drop_succ, List.map_append]; rfl)
              obtain ⟨n1, hn1⟩ : ∃ n1, 0 + r + (n - (r + 1)) = n1 := ⟨_, rfl⟩
              have HN1 := Lib.hid hn1
              have HNf : Hid ((l.eraseIdx r).length = n1) := Lib.hid (by rw [List.length_eraseIdx_of_lt (by rw [HN.out]; exact hrn), HN.out]; omega)
              have hn18 : n1 ≤ 800 := by omega
              clear hn1
              go_region_held3 (fun w' => Below w6.heap.size w6 w') (first | exact (Below.refl _ _).drew | assumption | exact bel_al (by assumption) _) (first
                | ((refine step_append_some _ (by rfl) _ _ 24 (by rfl) w6.heap.size 3 i0 (.int .i64 0) 1 8 Try.underlying24 HI.out.1 HI.out.2.1 HI.out.2.2.1 HI.out.2.2.2 (by rfl) (by decide) w6.heap.size 0 0 [] (by rfl) HOwn.out ⟨g, 0, none⟩ r hc ((l.take r).map (Value.int .i64)) (by rfl) HL1.out (HC1.out _ (by assumption)) HO1.out (by unfold maxLen; omega) (by omega) (by simp) ?_; intro g7 c7 w7 hown7 hg7; have hb7 : Below w6.heap.size w6 w7 := bel_gr (by assumption) hg7 (Nat.le_refl _); have HO7 := Lib.hid hown7; clear hown7 hg7))
                | ((refine step_append_some _ (by rfl) _ _ 24 (by rfl) w6.heap.size 3 i0 (.int .i64 0) 1 8 Try.underlying24 HI.out.1 HI.out.2.1 HI.out.2.2.1 HI.out.2.2.2 (by rfl) (by decide) g7 (0 + r) c7 _ (by rfl) HO7.out adL (n - (r + 1)) (hc - (r + 1)) ((l.drop (r + 1)).map (Value.int .i64)) (by rfl) HL2.out (HC2.out _ (by assumption)) HO2.out (by unfold maxLen; omega) (by omega) (by have := hb7.size; omega) ?_; intro g8 c8 w8 hown8 hg8; rw [HZZ.out, HN1.out] at hown8; rw [HN1.out]; have hb8 : Below w6.heap.size w6 w8 := bel_gr (by assumption) hg8 (HO7.out.lt g7 rfl).1; have HP8 := Lib.hid (HP6.out.fresh hb8 hown8 HNf.out); clear hown8 hg8)))
              obtain ⟨tf, HTf⟩ : ∃ tf, Hid ((l.eraseIdx r).contains ask = tf) := ⟨_, Lib.hid rfl⟩
              obtain ⟨lx, HLx⟩ : ∃ lx, Hid (l.eraseIdx r = lx) := ⟨_, Lib.hid rfl⟩
              rw [HLx.out] at HNf HTf HP8
              go_wp2_with (first
                | (go_at_call 15; (with_reducible refine (qall_v HP8.out.qv HNf (by omega)).mono ?_); rintro e wa ⟨aa, ca, rfl, hra, hba⟩; have HRa := Lib.hid hra; have HPa := Lib.hid (HP8.out.step hba); clear hra hba) | (go_at_call 14; (with_reducible refine (sameints_yes aa (some ⟨g8, 0, none⟩) ca c8 n1 lx HNf (by omega) _ (own_ri HRa.out HNf.out) (HPa.out.ri HNf.out)).mono ?_); rintro e wb ⟨rfl, hbb⟩; have HPb := Lib.hid (HPa.out.step hbb); clear hbb) | (go_at_call 16; (with_reducible refine (qlen_v HPb.out.qv n1 HNf).mono ?_); rintro e wc ⟨rfl, rfl⟩) | (go_at_call 17; (with_reducible refine (qhas_is ask hask tf HTf _ HPb.out.qv.qi).mono ?_); rintro e wd ⟨rfl, hbd⟩; have HPd := Lib.hid (HPb.out.step hbd); clear hbd) | (go_at_call 9; (with_reducible refine (among_is (some ⟨g8, 0, none⟩) c8 n1 lx HNf (by omega) ask tf HTf _ (HPd.out.ri HNf.out)).mono ?_); rintro e we ⟨rfl, hbe⟩; have HPe := Lib.hid (HPd.out.step hbe); clear hbe))
              go_roundw
              case rel => exact ⟨k + 1, b, lx, S6, by omega, by go_num, by omega, by rw [HNf.out]; have h1 := HN.out; have h2 := HN1.out; clear hwr; omega, HPe.out⟩
              case measure => simp [intOf]; omega
          · have t2 : (kd == 2) = false := by simpa using hk2
            obtain ⟨ti, HTi⟩ : ∃ ti, Hid (l.contains nn = ti) := ⟨_, Lib.hid rfl⟩
            have hD : ∀ W, QV w W q q b l S → Calls Try.prog 13 #[.pointer (some ⟨q, 0, none⟩), .int .i64 nn] W fun e w' => e = .returned (.bool ti) ∧ ∃ S', QI w' q q b (but l nn) S' ∧ QFr W w' S S' := by
              intro W hW
              cases ti
              · refine (qdrop_no' nn hwn HTi hW).mono fun e w' ⟨h1, h2⟩ => ⟨h1, S, ?_, QFr.of_below h2 S⟩
                rw [but_not l nn HTi.out]
                exact hW.qi.below h2
              · exact qdrop_yes nn hwn HTi HN (by omega) hW
            have HDr := Lib.hid hD
            clear hD
            go_wp2_with (first
              | (go_at_call 9; (with_reducible refine (among_is ha hc n l HN (by omega) nn ti HTi _ (HP5.out.ri HN.out)).mono ?_); rintro e w6 ⟨rfl, hb⟩; have HP6 := Lib.hid (HP5.out.step hb); have HD6 := Lib.hid (HDK.out.below hb); have e6 := HD6.out.c1; clear hb e0 e1 e2)
              | (go_at_call 13; (with_reducible refine (HDr.out _ HP6.out.qv).mono ?_); rintro e w7 ⟨rfl, S7, h7, f7⟩; have HP7 := Lib.hid (HP6.out.turn h7 f7); have HD7 := Lib.hid (HD6.out.turn f7 HS0.out); clear h7 f7 e6))
            have HR7 := Lib.hid (HP7.out.row' HN.out)
            have hb7 := HP7.out.qv.bel.size
            go_loopw [16, 17] (fun v z wx => ∃ (j : Nat) (lh2 : List Int), j ≤ n ∧ z = .int .i64 j ∧ lh2 = but (l.take j) nn ∧ wx.ownsRow w7.heap.size 3 1 v lh2.length (lh2.map (Value.int .i64)) ∧ Below w7.heap.size w7 wx) (fun _ z _ => n - (intOf z).toNat)
            case atStart => exact ⟨0, [], by omega, rfl, rfl, World.ownsRow_nil _ _ _ _, Below.refl _ _⟩
            case round =>
              obtain ⟨j, lh2, hj, rfl, hlh, hrow, hbel⟩ := hrel
              have HLH := Lib.hid hlh
              have HW := Lib.hid hrow
              have HL := Lib.hid hbel
              have hle2 : lh2.length ≤ j := by
                rw [hlh]
                have h1 : (but (l.take j) nn).length ≤ (l.take j).length := List.length_filter_le _ _
                have h2 : (l.take j).length ≤ j := List.length_take_le _ _
                omega
              clear hlh hrow
              by_cases hlt2 : j < n
              · have hjl : j < l.length := by rw [HN.out]; exact hlt2
                obtain ⟨g, rfl⟩ : ∃ g, ha = some ⟨g, 0, none⟩ := by
                  obtain ⟨g, c', hv⟩ := owns_slice HR7.out (by omega)
                  simp at hv
                  exact ⟨g, hv.1⟩
                have hc1 : wr.cell? ⟨g, j, none⟩ = some (.int .i64 (l.getD j 0)) := by
                  rw [hbel.cell (p := ⟨g, j, none⟩) (HR7.out.lt g rfl).2, HR7.out.cellAt j (by omega)]
                  simp [List.getD, hjl]
                have HX : Hid (l.take (j + 1) = l.take j ++ [l.getD j 0]) := Lib.hid (take_succ' l j hjl)
                generalize l.getD j 0 = x at hc1 HX
                have e7 := (HD7.out.below hbel).c1
                have j0 : (0 : Int) ≤ j := by omega
                have j1 : (j : Int) < n := by omega
                clear hbel hjl
                cases hxe : (x == nn)
                · have HE : Hid (but (l.take (j + 1)) nn = lh2 ++ [x]) := Lib.hid (by rw [HX.out, but_snoc, if_neg (by rw [hxe]; simp), HLH.out])
                  go_wp2_with fail
                  go_quiet (fail)
                  go_wp2_with (first
                    | (at_builtin; refine wpList_append_own _ rfl _ _ 24 rfl w7.heap.size 3 i0 (.int .i64 0) 1 8 Try.underlying24 HI.out.1 HI.out.2.1 HI.out.2.2.1 HI.out.2.2.2 rfl (by decide) _ _ _ rfl ((own_drewN HW.out _).alloc _) ⟨wr.heap.size, 0, none⟩ 1 1 [.int .i64 x] rfl rfl (cell_one_new _ _ _) (ints_oneCell .i64 [x]) (by unfold maxLen; omega) (by omega) (by have := HL.out.size; simp; omega) ?_; intro v' w8 hown' hgrow' _; have HB8 : Hid (Below w7.heap.size w7 w8) := Lib.hid ((below_dN HL.out _ |>.alloc (by have := HL.out.size; simpa using this) _).grown hgrow' (by have := HL.out.size; simp; omega) (fun g hg => (HW.out.lt g hg).1)); have HO8 := Lib.hid hown'; clear hown' hgrow'))
                  go_roundw
                  case rel => exact ⟨j + 1, lh2 ++ [x], by omega, by go_num, HE.out.symm, by simpa using HO8.out, HB8.out⟩
                  case measure => simp [intOf]; omega
                · have HE : Hid (but (l.take (j + 1)) nn = lh2) := Lib.hid (by rw [HX.out, but_snoc, if_pos hxe, HLH.out])
                  go_wp2_with fail
                  go_quiet (fail)
                  go_wp2_with fail
                  go_roundw
                  case rel => exact ⟨j + 1, lh2, by omega, by go_num, HE.out.symm, own_drewN HW.out _, below_dN HL.out _⟩
                  case measure => simp [intOf]; omega
              · obtain rfl : j = n := by omega
                have hdd : decide (j < j) = false := by simp
                have HE : Hid (lh2 = but l nn) := Lib.hid (by rw [HLH.out, List.take_of_length_le (by rw [HN.out]; exact Nat.le_refl _)])
                obtain ⟨n2, HNf⟩ : ∃ n2, Hid (lh2.length = n2) := ⟨_, Lib.hid rfl⟩
                have HP8 : Hid (PQ w wr q b lh2 lh2 S7 u16) := Lib.hid (by have h := HP7.out.fresh (l' := lh2) HL.out HW.out rfl; rw [← HE.out] at h; exact h)
                obtain ⟨ha2, hc2, hv⟩ := HP8.out.form HNf.out
                subst hv
                obtain ⟨tf, HTf⟩ : ∃ tf, Hid (lh2.contains ask = tf) := ⟨_, Lib.hid rfl⟩
                have hn2 : n2 ≤ 800 := by rw [← HNf.out]; omega
                have HN2 : Hid (lh2.length ≤ 10 * (k + 1)) := Lib.hid (by have := HN.out; omega)
                clear hbel
                go_wp2_with (first
                  | (go_at_call 15; (with_reducible refine (qall_v HP8.out.qv HNf (by omega)).mono ?_); rintro e wa ⟨aa, ca, rfl, hra, hba⟩; have HRa := Lib.hid hra; have HPa := Lib.hid (HP8.out.step hba); clear hra hba) | (go_at_call 14; (with_reducible refine (sameints_yes aa ha2 ca hc2 n2 lh2 HNf (by omega) _ (own_ri HRa.out HNf.out) (HPa.out.ri HNf.out)).mono ?_); rintro e wb ⟨rfl, hbb⟩; have HPb := Lib.hid (HPa.out.step hbb); clear hbb) | (go_at_call 16; (with_reducible refine (qlen_v HPb.out.qv n2 HNf).mono ?_); rintro e wc ⟨rfl, rfl⟩) | (go_at_call 17; (with_reducible refine (qhas_is ask hask tf HTf _ HPb.out.qv.qi).mono ?_); rintro e wd ⟨rfl, hbd⟩; have HPd := Lib.hid (HPb.out.step hbd); clear hbd) | (go_at_call 9; (with_reducible refine (among_is ha2 hc2 n2 lh2 HNf (by omega) ask tf HTf _ (HPd.out.ri HNf.out)).mono ?_); rintro e we ⟨rfl, hbe⟩; have HPe := Lib.hid (HPd.out.step hbe); clear hbe))
                go_roundw
                case rel => exact ⟨k + 1, b, lh2, S7, by omega, by go_num, by omega, HN2.out, HPe.out⟩
                case measure => simp [intOf]; omega
    · obtain rfl : k = len := by omega
      have hdd : decide (k < k) = false := by simp
      go_wp2_with fail
      go_ret
      exact ⟨rfl, HP.out.qv.bel⟩
theorem walk_QueuePlays (a0 : Option Addr) (len0 cap0 : Nat) (a1 : Int) (w : World) (w0 : Reads Try.prog w 22 [.slice a0 len0 cap0]) (w1 : (Lit.int .i64 a1).wf = true) :
    Calls Try.prog 3 #[.slice a0 len0 cap0, .int .i64 a1] w fun e w' => e = .returned (.bool true) ∧ Below w.heap.size w w' := by
  by_cases hl : 80 < len0
  · exact qplays_big a0 len0 cap0 a1 hl w
  · exact qplays_small a0 len0 cap0 a1 w1 (by omega) w w0
end Go.Proofs.Ytdfcpgbimihcoaa
