import Derived.Test.YtggnaalcdekccaaDoorWireRf
namespace Go.Proofs.YtggnaalcdekccaaDoor
open Go.ChangeShapes Go.WideShapes Go.ChangeAt Go.RowKit
set_option linter.unusedVariables false
theorem num_at {w : World} {p g : Nat} (ns : List Int) (j : Nat) (h : Rd w p g (plc ns j) (encs ns) .nilIface) (hj : j < ns.length) (hle : (encs ns).length ≤ 1000) (hr : ∀ n ∈ ns, -9223372036854775808 ≤ n ∧ n ≤ 9223372036854775807) :
    Calls Tryd.prog 18 #[.pointer (some ⟨p, 0, none⟩), .int .i64 (-9223372036854775808), .int .i64 9223372036854775807] w fun e w' => e = .returned (.int .i64 (ns.getD j 0)) ∧ Rd w' p g (plc ns (j + 1)) (encs ns) .nilIface ∧ w.grownBy w' (some p) := by
  have hm : ns.getD j 0 ∈ ns := by rw [show ns.getD j 0 = ns[j] by simp [List.getD, hj]]; exact List.getElem_mem _
  have h1 := (hr _ hm).1
  have h2 := (hr _ hm).2
  have hlt := plc_lt ns j hj
  have hpl := plc_le ns j hj
  have hc := cut_ok ns j (encs ns).length hj hpl h1 h2
  rw [List.take_length] at hc
  have := rd_num_ok h (by omega) (by omega) (zig (ns.getD j 0)) (enc (zig (ns.getD j 0))).length hc _ _ (ns.getD j 0) (zag_zig _) h1 h2 (zig_lt h1 h2) (enc_zig10 _ h1 h2)
  rwa [← plc_succ ns j hj] at this
/-- What a loop that puts number after number has put. -/
def Acc (w0 wr : World) (bs : List Nat) (ns : List Int) (v i : Value) : Prop :=
  ∃ (k : Nat) (xs : List Nat) (a : Option Addr) (c : Nat), k ≤ ns.length ∧ i = .int .i64 k ∧ v = .slice a xs.length c ∧ xs = bs ++ encs (ns.take k) ∧ SrcB wr a xs ∧ (∀ ad, a = some ad → ad.block < wr.heap.size) ∧ Below w0.heap.size w0 wr
theorem acc_len {bs xs : List Nat} {ns : List Int} {k : Nat} (h : xs = bs ++ encs (ns.take k)) (hb : bs.length ≤ 100) (hn : ns.length ≤ 30) (hr : ∀ n ∈ ns, -9223372036854775808 ≤ n ∧ n ≤ 9223372036854775807) : xs.length ≤ 400 := by
  have := encs_len (ns.take k) (fun n hn => hr n (List.mem_of_mem_take hn))
  rw [h]; simp at this ⊢; omega
theorem acc_next {bs xs : List Nat} {ns : List Int} {k : Nat} {n : Int} (h : xs = bs ++ encs (ns.take k)) (hk : k < ns.length) (hn : ns.getD k 0 = n) : xs ++ enc (zig n) = bs ++ encs (ns.take (k + 1)) := by
  rw [encs_snoc ns k hk, h, List.append_assoc, hn]
theorem out_opaque {w w' : World} {bs : List Nat} {e : Ending} (h : OutB w w' bs e) : ∃ ys, Hid (ys = bs) ∧ OutB w w' ys e := ⟨bs, Lib.hid rfl, h⟩
theorem refput_out (a : Option Addr) (cap : Nat) (bs : List Nat) (n : Int) (w : World) (hl : bs.length ≤ 10000) (hb : SrcB w a bs) (r : -9223372036854775808 ≤ n ∧ n ≤ 9223372036854775807) :
    Calls Tryd.prog 14 #[.slice a bs.length cap, .int .i64 n] w fun e w' => ∃ ys, Hid (ys = bs ++ enc (zig n)) ∧ OutB w w' ys e :=
  (refput_any a cap bs n w hl hb r.1 r.2).mono fun e w' h => out_opaque h
theorem put_outx (a la : Option Addr) (cap lcap : Nat) (bs : List Nat) (ns : List Int) (w : World) (hl : bs.length ≤ 10000) (hn : ns.length ≤ 1000) (hb : SrcB w a bs) (hs : SrcL w la ns) :
    Calls Tryd.prog 15 #[.slice a bs.length cap, .slice la ns.length lcap] w fun e w' => ∃ ys, Hid (ys = bs ++ encs ns) ∧ OutB w w' ys e :=
  (put_out a la cap lcap bs ns w hl hn hb hs).mono fun e w' h => out_opaque h
theorem put_one_out (a : Option Addr) (cap : Nat) (bs : List Nat) (n : Int) (w : World) (t : TypeId) (hl : bs.length ≤ 10000) (hb : SrcB w a bs) (hlt : ∀ ad, a = some ad → ad.block < w.heap.size) (r : -9223372036854775808 ≤ n ∧ n ≤ 9223372036854775807) :
    Calls Tryd.prog 15 #[.slice a bs.length cap, .slice (some ⟨w.heap.size, 0, none⟩) 1 1] (w.alloc (.cells #[.int .i64 n] t)) fun e w' => ∃ ys, Hid (ys = bs ++ enc (zig n)) ∧ OutB w w' ys e := by
  have hb1 : Below w.heap.size w (w.alloc (.cells #[.int .i64 n] t)) := (Below.refl _ _).alloc (Nat.le_refl _) _
  refine (put_out a (some ⟨w.heap.size, 0, none⟩) cap 1 bs [n] _ hl (by simp) (hb.below hb1 hlt) (srcL_one w n t r)).mono fun e w' h => ?_
  rw [encs_one] at h
  refine ⟨_, Lib.hid rfl, ?_⟩
  obtain ⟨a', c', h1, h2, h3, h4, h5, h6⟩ := h
  have hs : w.heap.size ≤ (w.alloc (.cells #[.int .i64 n] t)).heap.size := hb1.size
  exact ⟨a', c', h1, h2, fun ad had => ⟨Nat.le_trans hs (h3 ad had).1, (h3 ad had).2⟩, h4, h5, hb1.trans (h6.mono hs)⟩
theorem SrcB.below2 {B : Nat} {w w' : World} {a : Option Addr} {bs : List Nat} (h : SrcB w a bs) (hb : Below B w w') (hl : ∀ ad, a = some ad → 0 < bs.length → ad.block < B) : SrcB w' a bs := by
  refine ⟨h.1, h.2.1, fun ad had i hi => ?_⟩
  have h1 := h.2.2 ad had i hi
  refine ⟨?_, h1.2⟩
  rw [hb.cell (p := ad.add i) (by unfold Addr.add; split <;> exact hl ad had (by omega))]
  exact h1.1
theorem longs_at {w : World} {la : Option Addr} {ns : List Int} (h : SrcL w la ns) (k : Nat) (hk : k < ns.length) : ∃ ad, la = some ad ∧ w.cell? (ad.add k) = some (.int .i64 (ns.getD k 0)) ∧ -9223372036854775808 ≤ ns.getD k 0 ∧ ns.getD k 0 ≤ 9223372036854775807 := by
  cases la with
  | none => have := h.2.1 rfl; rw [this] at hk; simp at hk
  | some ad => exact ⟨ad, rfl, h.2.2 ad rfl k hk⟩
end Go.Proofs.YtggnaalcdekccaaDoor
