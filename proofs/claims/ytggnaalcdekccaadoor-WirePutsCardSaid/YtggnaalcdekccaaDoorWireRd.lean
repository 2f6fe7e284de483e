/-
  wire.Reader: NewReader, At, Left, Err, Num, Bool: contracts.
-/
import Derived.Test.YtggnaalcdekccaaDoorWireFns
import Derived.Laws.CopyOwn
import Derived.Laws.DeepNot64
namespace Go.Proofs.YtggnaalcdekccaaDoor
open Go.ChangeShapes Go.WideShapes Go.ChangeAt Go.RowKit
set_option linter.unusedVariables false
theorem sizeByte : (Tryd.prog.info? 5).map (·.size) = some 1 := by kernel_rfl
/-- A reader that lies at p: its own bytes at g, where it is, its error. -/
structure Rd (w : World) (p g at_ : Nat) (bs : List Nat) (ev : Value) : Prop where
  ne : p ≠ g
  lp : p < w.heap.size
  lg : g < w.heap.size
  c0 : w.cell? ⟨p, 0, none⟩ = some (.slice (some ⟨g, 0, none⟩) bs.length bs.length)
  c1 : w.cell? ⟨p, 1, none⟩ = some (.int .i64 (at_ : Int))
  c2 : w.cell? ⟨p, 2, none⟩ = some ev
  f1 : w.frozen? ⟨p, 1, none⟩ = false
  f2 : w.frozen? ⟨p, 2, none⟩ = false
  bytes : BytesAt w ⟨g, 0, none⟩ bs
theorem BytesAt.below {B : Nat} {w w' : World} {ad : Addr} {bs : List Nat} (h : BytesAt w ad bs) (hb : Below B w w') (hl : ad.block < B) : BytesAt w' ad bs := by
  intro i hi
  refine ⟨?_, (h i hi).2⟩
  rw [hb.cell (p := ad.add i) (by unfold Addr.add; split <;> simpa using hl)]
  exact (h i hi).1
theorem Rd.below {B : Nat} {w w' : World} {p g at_ : Nat} {bs : List Nat} {ev : Value} (h : Rd w p g at_ bs ev) (hb : Below B w w') (h1 : p < B) (h2 : g < B) : Rd w' p g at_ bs ev :=
  ⟨h.ne, Nat.lt_of_lt_of_le h.lp hb.size, Nat.lt_of_lt_of_le h.lg hb.size, (hb.cell (p := ⟨p, 0, none⟩) h1).trans h.c0, (hb.cell (p := ⟨p, 1, none⟩) h1).trans h.c1, (hb.cell (p := ⟨p, 2, none⟩) h1).trans h.c2,
    (hb.frozen (p := ⟨p, 1, none⟩) h1).trans h.f1, (hb.frozen (p := ⟨p, 2, none⟩) h1).trans h.f2, h.bytes.below hb h2⟩
theorem bytes_of_row {w : World} {g : Nat} {bs : List Nat} {t : TypeId} (h : w.heap[g]? = some (.cells (bs.map bc).toArray t (0, 0))) (hx : ∀ x ∈ bs, x < 256) : BytesAt w ⟨g, 0, none⟩ bs := by
  intro i hi
  have ha : (⟨g, 0, none⟩ : Addr).add i = ⟨g, i, none⟩ := by unfold Addr.add; split <;> simp_all
  refine ⟨?_, ?_⟩
  · rw [ha]
    simp [World.cell?, h, hi]
  · rw [show bs.getD i 0 = bs[i] by simp [List.getD, hi]]
    exact hx _ (List.getElem_mem _)
theorem cell_lt2 {w : World} {x : Addr} {v : Value} (h : w.cell? x = some v) : x.block < w.heap.size := by
  rcases Nat.lt_or_ge x.block w.heap.size with h' | h'
  · exact h'
  · simp [World.cell?, Array.getElem?_eq_none h'] at h
theorem splice_all {α : Type} (L cs : List α) (h : L.length = cs.length) : splice L 0 cs = cs := by simp [splice, ← h]
set_option maxRecDepth 100000 in
set_option maxHeartbeats 1000000 in
theorem newreader_any (a : Option Addr) (cap : Nat) (bs : List Nat) (w : World) (hl : bs.length ≤ 1000000) (hx : ∀ x ∈ bs, x < 256) (hsrc : 0 < bs.length → ∃ ad, a = some ad ∧ BytesAt w ad bs) :
    Calls Tryd.prog 17 #[.slice a bs.length cap] w fun e w' => ∃ p g, e = .returned (.pointer (some ⟨p, 0, none⟩)) ∧ Rd w' p g 0 bs .nilIface ∧ w.heap.size ≤ p ∧ w.heap.size ≤ g ∧ Below w.heap.size w w' := by
  have HS := Lib.hid hsrc
  clear hsrc
  obtain ⟨i0, hi, hz0, hz1, hz2⟩ := info_parts infoByte
  go_enter Tryd.func17, Tryd.ntmps17
  go_wp2_with (first | (at_make; refine wpList_make_full _ rfl _ _ 22 rfl w.heap.size 5 i0 (.int .u8 0) 1 Tryd.underlying22 hi hz0 hz1 .i64 .i64 _ _ bs.length rfl rfl rfl rfl ?b2 ?b3 ?b4 ?_))
  case b2 => rw [hz2]; omega
  case b3 => unfold maxLen; omega
  case b4 => exact Nat.le_refl _
  intro w1 hown hgrow
  have hb1 : Below w.heap.size w w1 := (Below.refl _ _).grown hgrow (Nat.le_refl _) (fun k hk => by cases hk)
  obtain ⟨cur, hg, hcs⟩ : ∃ cur : List Value, w1.heap[w.heap.size]? = some (.cells cur.toArray 5 (0, 0)) ∧ cur.length = bs.length := by
    rcases hown.2 with ⟨h0, _⟩ | ⟨g, c, cr, h1, h2, h3, h4, h5, h6, h7⟩
    · simp at h0
    · simp at h1
      obtain ⟨rfl, rfl⟩ := h1
      exact ⟨cr.toList, by simpa using h3, by simpa using h6⟩
  clear hown
  have hgz : w.heap.size < w1.heap.size := (Array.getElem?_eq_some_iff.1 hg).1
  have HG := Lib.hid hg
  have HC := Lib.hid hcs
  have HB := Lib.hid hb1
  obtain ⟨cs, hcsd⟩ : ∃ cs, cs = bs.map bc := ⟨_, rfl⟩
  have HD := Lib.hid hcsd
  clear hg hcs hb1 hgrow hcsd
  go_wp2_with (with_reducible refine wpList_copy_splice rfl (.tmp 7) (.tmp 8) 22 22 rfl 5 Tryd.underlying22 sizeByte _ _ bs.length bs.length bs.length cap rfl rfl w.heap.size 0 cur 5 HG.out cs ?k1 ?k2 ?k3 ?k4 w.heap.size w HB.out (Nat.le_refl _) ?_)
  case k1 => rw [HD.out]; simp
  case k2 =>
    intro hpos
    rw [HD.out, List.length_map] at hpos
    obtain ⟨ad, rfl, hba⟩ := HS.out hpos
    refine ⟨ad, rfl, fun j v hj => ?_⟩
    rw [HD.out, List.getElem?_map] at hj
    obtain ⟨x, hx1, hx2⟩ := Option.map_eq_some_iff.1 hj
    obtain ⟨hjl, hjx⟩ := List.getElem?_eq_some_iff.1 hx1
    have := (hba j hjl).1
    rw [show bs.getD j 0 = x by simp [List.getD, hx1]] at this
    have hadl : ad.block < w.heap.size := by
      have h0 := (hba 0 (by omega)).1
      have := cell_lt2 h0
      unfold Addr.add at this; split at this <;> exact this
    rw [HB.out.cell (p := ad.add j) (by unfold Addr.add; split <;> exact hadl), this, hx2]
  case k3 => rw [HD.out, HC.out]; simp
  case k4 => rw [HD.out]; intro v hv; simp at hv; obtain ⟨x, _, rfl⟩ := hv; rfl
  intro w2 hg2 hb2
  have hrow : w2.heap[w.heap.size]? = some (.cells (bs.map bc).toArray 5 (0, 0)) := by
    have := hg2.out
    rw [splice_all _ _ (by rw [HC.out, HD.out]; simp), HD.out] at this
    exact this
  have hlt2 : w.heap.size < w2.heap.size := (Array.getElem?_eq_some_iff.1 hrow).1
  have HR := Lib.hid hrow
  clear hrow hg2
  go_wp2
  go_ret
  refine ⟨w2.heap.size, w.heap.size, rfl, ⟨by omega, by simp, by simp; omega, by simp, by simp, by simp, by simp, by simp, ?_⟩, by omega, Nat.le_refl _, hb2.alloc (by omega) _⟩
  exact (bytes_of_row HR.out hx).below ((Below.refl w2.heap.size w2).alloc (Nat.le_refl _) _) hlt2
theorem rd_at {w : World} {p g at_ : Nat} {bs : List Nat} {ev : Value} (h : Rd w p g at_ bs ev) : Calls Tryd.prog 23 #[.pointer (some ⟨p, 0, none⟩)] w fun e w' => e = .returned (.int .i64 (at_ : Int)) ∧ w = w' := by
  have c1 := h.c1
  clear h
  go_enter Tryd.func23, Tryd.ntmps23
  go_wp2
  go_ret
  exact ⟨rfl, rfl⟩
theorem rd_err {w : World} {p g at_ : Nat} {bs : List Nat} {ev : Value} (h : Rd w p g at_ bs ev) : Calls Tryd.prog 20 #[.pointer (some ⟨p, 0, none⟩)] w fun e w' => e = .returned ev ∧ w = w' := by
  have c2 := h.c2
  clear h
  go_enter Tryd.func20, Tryd.ntmps20
  go_wp2
  go_ret
  exact ⟨rfl, rfl⟩
theorem rd_left {w : World} {p g at_ : Nat} {bs : List Nat} {ev : Value} (h : Rd w p g at_ bs ev) (hl : bs.length ≤ 1000000) (ha : at_ ≤ bs.length) : Calls Tryd.prog 19 #[.pointer (some ⟨p, 0, none⟩)] w fun e w' => e = .returned (.int .i64 ((bs.length : Int) - at_)) ∧ Below w.heap.size w w' := by
  have c0 := h.c0
  have c1 := h.c1
  clear h
  go_enter Tryd.func19, Tryd.ntmps19
  go_wp2
  go_quiet (fail)
  go_wp2
  go_ret
  exact ⟨rfl, below_drewN (Below.refl _ _) _⟩
theorem quiet_left2 {P : Program} {f : FuncId} {args : Array Value} {w : World} {n : Nat} {v : Value}
    (h : Calls P f args (w.drewN n) fun e w' => e = .returned v ∧ w.drewN n = w') : Calls P f args (w.drewN n) fun e w'' => e = .returned v ∧ ∃ m, w'' = w.drewN m :=
  h.mono fun _ _ ⟨he, hm⟩ => ⟨he, n, hm.symm⟩
theorem BytesAt.drop {w : World} {g k : Nat} {bs : List Nat} (h : BytesAt w ⟨g, 0, none⟩ bs) (hk : k < bs.length) : BytesAt w ⟨g, k, none⟩ (bs.drop k) := by
  intro i hi
  have hi' : k + i < bs.length := by simp at hi; omega
  have a1 : (⟨g, 0, none⟩ : Addr).add (k + i) = ⟨g, k + i, none⟩ := by unfold Addr.add; split <;> simp_all
  have a2 : (⟨g, k, none⟩ : Addr).add i = ⟨g, k + i, none⟩ := by unfold Addr.add; split <;> simp_all
  have e : (bs.drop k).getD i 0 = bs.getD (k + i) 0 := by simp [List.getD]
  rw [a2, e, ← a1]
  exact h (k + i) hi'
theorem BytesAt.drewN {w : World} {ad : Addr} {bs : List Nat} (h : BytesAt w ad bs) (n : Nat) : BytesAt (w.drewN n) ad bs := h
/-- parse on what is left of a reader's bytes. -/
theorem parse_rest {w : World} {g at_ : Nat} {bs : List Nat} (hb : BytesAt w ⟨g, 0, none⟩ bs) (hl : bs.length ≤ 1000000) (ha : at_ < bs.length) {u k : Nat} (hp : pars 0 0 (bs.drop at_) = (u, k, 0)) (n : Nat) :
    Calls Tryd.prog 42 #[.slice (some ⟨g, at_, none⟩) (bs.length - at_) (bs.length - at_)] (w.drewN n) fun e w' => e = .returned (.tuple #[.int .u64 u, .int .i64 k, .nilIface]) ∧ w.drewN n = w' := by
  have := parse_any ⟨g, at_, none⟩ (bs.length - at_) (bs.drop at_) (w.drewN n) (by simp; omega) (by simp) (by omega) ((hb.drop ha).drewN n) u k hp
  rwa [List.length_drop] at this
theorem bits_and1 (u : Nat) (hu : u < 18446744073709551616) : bits BinOp.and IntKind.u64 (u : Int) 1 = ((u % 2 : Nat) : Int) := by
  have := u64_and_nat u 1 hu (by decide)
  rw [nat_mask1] at this
  exact this
theorem i64_xor_comm (a b : Int) : bits BinOp.xor IntKind.i64 a b = bits BinOp.xor IntKind.i64 b a := by
  show IntKind.i64.wrap ((BitVec.ofInt 64 a ^^^ BitVec.ofInt 64 b).toNat : Int) = IntKind.i64.wrap ((BitVec.ofInt 64 b ^^^ BitVec.ofInt 64 a).toNat : Int)
  rw [BitVec.xor_comm]
theorem i64_xor_zero (a : Nat) (ha : a < 9223372036854775808) : bits BinOp.xor IntKind.i64 (a : Int) 0 = (a : Int) := by
  show IntKind.i64.wrap ((BitVec.ofInt 64 (a : Int) ^^^ BitVec.ofInt 64 0).toNat : Int) = _
  rw [show BitVec.ofInt 64 0 = 0#64 from rfl, BitVec.xor_zero, ofInt_u64 a (by omega)]
  simp only [IntKind.wrap, IntKind.bits, IntKind.signed]
  simp
  omega
theorem zag_bits (u : Nat) (hu : u < 18446744073709551616) : bits BinOp.xor IntKind.i64 (wrap64 ((u : Int) / 2)) (-((u : Int) % 2)) = zag u := by
  rw [show wrap64 ((u : Int) / 2) = (u : Int) / 2 by unfold wrap64; omega]
  have e : ((u : Int) / 2) = ((u / 2 : Nat) : Int) := by omega
  rw [e]
  unfold zag
  by_cases h : u % 2 = 0
  · have e2 : -((u : Int) % 2) = 0 := by omega
    rw [if_pos h, e2, i64_xor_zero _ (by omega)]
  · have e2 : -((u : Int) % 2) = -1 := by omega
    rw [if_neg h, e2, i64_xor_comm, i64_not _ (by omega)]
    omega
theorem grown_drewN (w : World) (n : Nat) (row : Option Nat) : w.grownBy (w.drewN n) row := ⟨rfl, rfl, rfl, Nat.le_refl _, fun _ _ _ => rfl⟩
theorem grown_set {w : World} {a : Addr} {v : Value} : w.grownBy (w.setCell a v) (some a.block) := ⟨rfl, rfl, rfl, by simp, fun k _ hk => Below.heap_setCell w a v k (fun e => hk (by rw [e]))⟩
theorem grown_trans {a b c : World} {row : Option Nat} (h : a.grownBy b row) (k : b.grownBy c row) : a.grownBy c row :=
  ⟨k.os.trans h.os, k.tape.trans h.tape, k.output.trans h.output, Nat.le_trans h.size k.size, fun i hi hr => (k.block i (Nat.lt_of_lt_of_le hi h.size) hr).trans (h.block i hi hr)⟩
theorem grown_frozen {w w' : World} {row : Option Nat} (hg : w.grownBy w' row) {a : Addr} (hl : a.block < w.heap.size) (hne : some a.block ≠ row) : w'.frozen? a = w.frozen? a := World.frozen?_of_block (hg.block a.block hl hne)
theorem BytesAt.grown {w w' : World} {ad : Addr} {bs : List Nat} {row : Option Nat} (h : BytesAt w ad bs) (hg : w.grownBy w' row) (hne : some ad.block ≠ row) : BytesAt w' ad bs := by
  intro i hi
  refine ⟨hg.cell (h i hi).1 ?_, (h i hi).2⟩
  unfold Addr.add; split <;> exact hne
theorem Rd.moved {w : World} {p g at_ : Nat} {bs : List Nat} {ev : Value} (h : Rd w p g at_ bs ev) (n k : Nat) :
    Rd ((w.drewN n).setCell ⟨p, 1, none⟩ (.int .i64 ((at_ : Int) + (k : Int)))) p g (at_ + k) bs ev ∧ w.grownBy ((w.drewN n).setCell ⟨p, 1, none⟩ (.int .i64 ((at_ : Int) + (k : Int)))) (some p) := by
  have hd : Rd (w.drewN n) p g at_ bs ev := ⟨h.ne, h.lp, h.lg, h.c0, h.c1, h.c2, h.f1, h.f2, h.bytes.drewN n⟩
  have hg : (w.drewN n).grownBy ((w.drewN n).setCell ⟨p, 1, none⟩ (.int .i64 ((at_ : Int) + (k : Int)))) (some p) := grown_set (a := ⟨p, 1, none⟩)
  refine ⟨⟨h.ne, by simpa using hd.lp, by simpa using hd.lg, ?_, ?_, ?_, by simpa using hd.f1, by simpa using hd.f2, hd.bytes.grown hg (by simpa using h.ne.symm)⟩, grown_trans (grown_drewN w n _) hg⟩
  · rw [World.cell?_setCell_other _ _ _ _ (by simp)]; exact hd.c0
  · exact World.cell?_setCell_same _ _ _ hd.c1
  · rw [World.cell?_setCell_other _ _ _ _ (by simp)]; exact hd.c2
set_option maxRecDepth 100000 in
set_option maxHeartbeats 1000000 in
theorem rd_num_ok {w : World} {p g at_ : Nat} {bs : List Nat} (h : Rd w p g at_ bs .nilIface) (hl : bs.length ≤ 1000000) (ha : at_ < bs.length) (u k : Nat) (hp : pars 0 0 (bs.drop at_) = (u, k, 0)) (low high z : Int) (hz' : zag u = z) (h1 : low ≤ z) (h2 : z ≤ high) (hu : u < 18446744073709551616) (hk : k ≤ 10) :
    Calls Tryd.prog 18 #[.pointer (some ⟨p, 0, none⟩), .int .i64 low, .int .i64 high] w fun e w' => e = .returned (.int .i64 z) ∧ Rd w' p g (at_ + k) bs .nilIface ∧ w.grownBy w' (some p) := by
  have c0 := h.c0
  have c1 := h.c1
  have c2 := h.c2
  have f1 := h.f1
  have hz := h.lp
  have HH := Lib.hid h
  have HU := Lib.hid hu
  have HP := Lib.hid hp
  have ai : (0 : Int) ≤ (at_ : Int) := by omega
  have al : (at_ : Int) ≤ (bs.length : Int) := by omega
  have t1 : decide (z < low) = false := by simp; omega
  have t2 : decide (high < z) = false := by simp; omega
  have EZ : bits BinOp.xor IntKind.i64 (wrap64 ((u : Int) / 2)) (-((u : Int) % 2)) = z := by rw [zag_bits u hu, hz']
  have EA : bits BinOp.and IntKind.u64 (u : Int) 1 = (u : Int) % 2 := by rw [bits_and1 u hu]; omega
  clear h hu hp hz'
  go_enter Tryd.func18, Tryd.ntmps18
  go_wp2_with fail
  go_quiet ((go_at_call 42; exact quiet_left2 (parse_rest HH.out.bytes hl ha HP.out _)))
  go_wp2_with fail
  go_ret
  exact ⟨rfl, HH.out.moved nq k⟩
theorem rd_num_late {w : World} {p g at_ : Nat} {bs : List Nat} {T : TypeId} {v : Value} (h : Rd w p g at_ bs (.iface T v)) (low high : Int) :
    Calls Tryd.prog 18 #[.pointer (some ⟨p, 0, none⟩), .int .i64 low, .int .i64 high] w fun e w' => e = .returned (.int .i64 0) ∧ w = w' := by
  have c2 := h.c2
  clear h
  go_enter Tryd.func18, Tryd.ntmps18
  go_wp2
  go_ret
  exact ⟨rfl, rfl⟩
/-- What a reader is behind its first error: the error with its place. -/
def Told (w' : World) (p g at_ : Nat) (bs : List Nat) (ev : Addr) : Prop := ∃ q, Rd w' p g at_ bs (Value.iface 76 (.pointer (some ⟨q, 0, none⟩))) ∧ q < w'.heap.size ∧ w'.cell? ⟨q, 0, none⟩ = some (.int .i64 (at_ : Int)) ∧ w'.cell? ⟨q, 1, none⟩ = some (eV ev)
theorem new_cell2 (w : World) (x y : Value) (t : TypeId) (j : Nat) : (w.alloc (.cells #[x, y] t)).cell? ⟨w.heap.size, j, none⟩ = #[x, y][j]? := by
  have := heap_alloc_new w (.cells #[x, y] t)
  simp only [World.cell?, this]
  rfl
theorem Rd.told {w : World} {p g at_ : Nat} {bs : List Nat} (h : Rd w p g at_ bs .nilIface) (n : Nat) (ev : Addr) :
    Told (((w.drewN n).alloc (.cells #[.int .i64 (at_ : Int), eV ev] 78)).setCell ⟨p, 2, none⟩ (Value.iface 76 (.pointer (some ⟨w.heap.size, 0, none⟩)))) p g at_ bs ev ∧ w.grownBy (((w.drewN n).alloc (.cells #[.int .i64 (at_ : Int), eV ev] 78)).setCell ⟨p, 2, none⟩ (Value.iface 76 (.pointer (some ⟨w.heap.size, 0, none⟩)))) (some p) := by
  have hd : Rd (w.drewN n) p g at_ bs .nilIface := ⟨h.ne, h.lp, h.lg, h.c0, h.c1, h.c2, h.f1, h.f2, h.bytes.drewN n⟩
  have ha : Below (w.drewN n).heap.size (w.drewN n) ((w.drewN n).alloc (.cells #[.int .i64 (at_ : Int), eV ev] 78)) := (Below.refl _ _).alloc (Nat.le_refl _) _
  have h1 := hd.below ha hd.lp hd.lg
  have hg : ((w.drewN n).alloc (.cells #[.int .i64 (at_ : Int), eV ev] 78)).grownBy (((w.drewN n).alloc (.cells #[.int .i64 (at_ : Int), eV ev] 78)).setCell ⟨p, 2, none⟩ (Value.iface 76 (.pointer (some ⟨w.heap.size, 0, none⟩)))) (some p) := grown_set (a := ⟨p, 2, none⟩)
  have hlp := h.lp
  have o : ∀ (x : Addr), x ≠ ⟨p, 2, none⟩ → (((w.drewN n).alloc (.cells #[.int .i64 (at_ : Int), eV ev] 78)).setCell ⟨p, 2, none⟩ (Value.iface 76 (.pointer (some ⟨w.heap.size, 0, none⟩)))).cell? x = ((w.drewN n).alloc (.cells #[.int .i64 (at_ : Int), eV ev] 78)).cell? x := fun x hx => World.cell?_setCell_other _ _ _ _ (Ne.symm hx)
  refine ⟨⟨w.heap.size, ⟨h.ne, by simpa using h1.lp, by simpa using h1.lg, ?_, ?_, World.cell?_setCell_same _ _ _ h1.c2, by simpa using h1.f1, by simpa using h1.f2, h1.bytes.grown hg (by simpa using h.ne.symm)⟩, by simp, ?_, ?_⟩, grown_trans (grown_trans (grown_drewN w n _) (World.grownBy_alloc _ _ _)) hg⟩
  · rw [o _ (by simp)]; exact h1.c0
  · rw [o _ (by simp)]; exact h1.c1
  · rw [o ⟨w.heap.size, 0, none⟩ (by intro e; have := congrArg Addr.block e; simp at this; omega)]
    exact new_cell2 (w.drewN n) _ _ _ 0
  · rw [o ⟨w.heap.size, 1, none⟩ (by intro e; have := congrArg Addr.block e; simp at this; omega)]
    exact new_cell2 (w.drewN n) _ _ _ 1
set_option maxRecDepth 100000 in
set_option maxHeartbeats 1000000 in
theorem rd_num_range {w : World} {p g at_ : Nat} {bs : List Nat} (h : Rd w p g at_ bs .nilIface) (hl : bs.length ≤ 1000000) (ha : at_ < bs.length) (u k : Nat) (hp : pars 0 0 (bs.drop at_) = (u, k, 0)) (low high z : Int) (hz' : zag u = z) (hout : z < low ∨ high < z) (hu : u < 18446744073709551616) (ev : Addr) (he : w.cell? ⟨0, 0, none⟩ = some (eV ev)) :
    Calls Tryd.prog 18 #[.pointer (some ⟨p, 0, none⟩), .int .i64 low, .int .i64 high] w fun e w' => e = .returned (.int .i64 0) ∧ Told w' p g at_ bs ev ∧ w.grownBy w' (some p) := by
  have c0 := h.c0
  have c1 := h.c1
  have c2 := h.c2
  have f2 := h.f2
  have hz := h.lp
  have q2 : ∀ (n : Nat) (X : Obj), ((w.drewN n).alloc X).cell? ⟨p, 2, none⟩ = some .nilIface := fun n X => (World.cell?_alloc_lt (w.drewN n) X ⟨p, 2, none⟩ hz).trans h.c2
  have q3 : ∀ (n : Nat) (X : Obj), ((w.drewN n).alloc X).frozen? ⟨p, 2, none⟩ = false := fun n X => (((Below.refl (w.drewN n).heap.size (w.drewN n)).alloc (Nat.le_refl _) X).frozen (p := ⟨p, 2, none⟩) hz).trans h.f2
  have HH := Lib.hid h
  have HU := Lib.hid hu
  have HP := Lib.hid hp
  have ai : (0 : Int) ≤ (at_ : Int) := by omega
  have al : (at_ : Int) ≤ (bs.length : Int) := by omega
  have EZ : bits BinOp.xor IntKind.i64 (wrap64 ((u : Int) / 2)) (-((u : Int) % 2)) = z := by rw [zag_bits u hu, hz']
  have EA : bits BinOp.and IntKind.u64 (u : Int) 1 = (u : Int) % 2 := by rw [bits_and1 u hu]; omega
  clear h hu hp hz'
  by_cases hlow : z < low
  · have t1 : decide (z < low) = true := by simpa using hlow
    go_enter Tryd.func18, Tryd.ntmps18
    go_wp2_with fail
    go_quiet ((go_at_call 42; exact quiet_left2 (parse_rest HH.out.bytes hl ha HP.out _)))
    go_wp2_with fail
    go_ret
    exact ⟨rfl, HH.out.told nq ev⟩
  · have t1 : decide (z < low) = false := by simp; omega
    have t2 : decide (high < z) = true := by simp; omega
    go_enter Tryd.func18, Tryd.ntmps18
    go_wp2_with fail
    go_quiet ((go_at_call 42; exact quiet_left2 (parse_rest HH.out.bytes hl ha HP.out _)))
    go_wp2_with fail
    go_ret
    exact ⟨rfl, HH.out.told nq ev⟩
theorem parse_rest_bad {w : World} {g at_ : Nat} {bs : List Nat} (hb : BytesAt w ⟨g, 0, none⟩ bs) (hl : bs.length ≤ 1000000) (ha : at_ < bs.length) {c gv : Nat} {ev : Addr} (hc : (c = 1 ∧ gv = 3) ∨ (c = 2 ∧ gv = 1)) (he : w.cell? ⟨gv, 0, none⟩ = some (eV ev)) (hp : pars 0 0 (bs.drop at_) = (0, 0, c)) (n : Nat) :
    Calls Tryd.prog 42 #[.slice (some ⟨g, at_, none⟩) (bs.length - at_) (bs.length - at_)] (w.drewN n) fun e w' => e = .returned (.tuple #[.int .u64 0, .int .i64 0, eV ev]) ∧ ∃ m, w' = (w.drewN n).drewN m := by
  rcases hc with ⟨rfl, rfl⟩ | ⟨rfl, rfl⟩
  · have := parse_cut ⟨g, at_, none⟩ (bs.length - at_) (bs.drop at_) (w.drewN n) (by simp; omega) (by simp) (by omega) ((hb.drop ha).drewN n) (eV ev) he hp
    rwa [List.length_drop] at this
  · have := parse_shape ⟨g, at_, none⟩ (bs.length - at_) (bs.drop at_) (w.drewN n) (by simp; omega) (by simp) (by omega) ((hb.drop ha).drewN n) (eV ev) he hp
    rwa [List.length_drop] at this
theorem parse_none {w : World} {ev : Addr} (he : w.cell? ⟨3, 0, none⟩ = some (eV ev)) (a : Addr) (n : Nat) :
    Calls Tryd.prog 42 #[.slice (some a) 0 0] (w.drewN n) fun e w' => e = .returned (.tuple #[.int .u64 0, .int .i64 0, eV ev]) ∧ ∃ m, w' = (w.drewN n).drewN m :=
  parse_cut a 0 [] (w.drewN n) (by simp) (by simp) (by omega) (fun i hi => by simp at hi) (eV ev) he rfl
theorem xor00 : bits BinOp.xor IntKind.i64 0 0 = 0 := by decide +kernel
theorem and01 : bits BinOp.and IntKind.u64 0 1 = 0 := by decide +kernel
set_option maxRecDepth 100000 in
set_option maxHeartbeats 1000000 in
theorem rd_num_bad {w : World} {p g at_ : Nat} {bs : List Nat} (h : Rd w p g at_ bs .nilIface) (hl : bs.length ≤ 1000000) (ha : at_ ≤ bs.length) {c gv : Nat} (hc : (c = 1 ∧ gv = 3) ∨ (c = 2 ∧ gv = 1)) (hp : pars 0 0 (bs.drop at_) = (0, 0, c)) (low high : Int) (ev : Addr) (he : w.cell? ⟨gv, 0, none⟩ = some (eV ev)) :
    Calls Tryd.prog 18 #[.pointer (some ⟨p, 0, none⟩), .int .i64 low, .int .i64 high] w fun e w' => e = .returned (.int .i64 0) ∧ Told w' p g at_ bs ev ∧ w.grownBy w' (some p) := by
  have c0 := h.c0
  have c1 := h.c1
  have c2 := h.c2
  have f2 := h.f2
  have hz := h.lp
  have q2 : ∀ (n : Nat) (X : Obj), ((w.drewN n).alloc X).cell? ⟨p, 2, none⟩ = some .nilIface := fun n X => (World.cell?_alloc_lt (w.drewN n) X ⟨p, 2, none⟩ hz).trans h.c2
  have q3 : ∀ (n : Nat) (X : Obj), ((w.drewN n).alloc X).frozen? ⟨p, 2, none⟩ = false := fun n X => (((Below.refl (w.drewN n).heap.size (w.drewN n)).alloc (Nat.le_refl _) X).frozen (p := ⟨p, 2, none⟩) hz).trans h.f2
  have HH := Lib.hid h
  have HP := Lib.hid hp
  have HC := Lib.hid hc
  have HE := Lib.hid he
  have ai : (0 : Int) ≤ (at_ : Int) := by omega
  have al : (at_ : Int) ≤ (bs.length : Int) := by omega
  have X0 := xor00
  have A0 := and01
  clear h hp hc he
  by_cases hat : at_ < bs.length
  · go_enter Tryd.func18, Tryd.ntmps18
    go_wp2_with fail
    go_quiet ((go_at_call 42; exact Calls.quiet_of (parse_rest_bad HH.out.bytes hl hat HC.out HE.out HP.out _)))
    go_wp2_with fail
    go_ret
    exact ⟨rfl, HH.out.told nq ev⟩
  · have hge : bs.length ≤ at_ := by omega
    have age : (bs.length : Int) ≤ (at_ : Int) := by omega
    have HEE : Hid (w.cell? ⟨3, 0, none⟩ = some (eV ev)) := by
      have h1 := HP.out
      rw [List.drop_eq_nil_of_le hge] at h1
      simp [pars] at h1
      rcases HC.out with ⟨_, h3⟩ | ⟨h2, _⟩
      · have h4 := HE.out
        rw [h3] at h4
        exact Lib.hid h4
      · omega
    go_enter Tryd.func18, Tryd.ntmps18
    go_wp2_with fail
    go_quiet ((go_at_call 42; exact Calls.quiet_of (parse_none HEE.out _ _)))
    go_wp2_with fail
    go_ret
    exact ⟨rfl, HH.out.told nq ev⟩
end Go.Proofs.YtggnaalcdekccaaDoor
