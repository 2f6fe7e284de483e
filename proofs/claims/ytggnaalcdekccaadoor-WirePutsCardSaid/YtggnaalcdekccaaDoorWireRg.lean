import Derived.Test.YtggnaalcdekccaaDoorWireBy
namespace Go.Proofs.YtggnaalcdekccaaDoor
open Go.ChangeShapes Go.WideShapes Go.ChangeAt Go.RowKit
set_option linter.unusedVariables false
theorem nr_own (B n : Nat) (v : Value) (bs : List Nat) (w : World) (hown : w.ownsRow B 5 1 v n (bs.map bc)) (hx : ∀ x ∈ bs, x < 256) (hl : bs.length ≤ 1000000) :
    Calls Tryd.prog 17 #[v] w fun e w' => ∃ p g, e = .returned (.pointer (some ⟨p, 0, none⟩)) ∧ Rd w' p g 0 bs .nilIface ∧ w.heap.size ≤ p ∧ w.heap.size ≤ g ∧ Below w.heap.size w w' := by
  obtain ⟨a, c, rfl, h1, h2, h3, h4⟩ := src_of_own hown hx
  refine newreader_any a c bs w hl hx (fun h0 => ?_)
  cases a with
  | none => have := h1.2.1 rfl; rw [this] at h0; simp at h0
  | some ad => exact ⟨ad, rfl, h1.2.2 ad rfl⟩
theorem rd_bool_late {w : World} {p g at_ : Nat} {bs : List Nat} {T : TypeId} {v : Value} (h : Rd w p g at_ bs (.iface T v)) :
    Calls Tryd.prog 24 #[.pointer (some ⟨p, 0, none⟩)] w fun e w' => e = .returned (.bool false) ∧ w = w' := by
  go_enter Tryd.func24, Tryd.ntmps24
  go_wp2_with (first | (go_at_call 18; refine (rd_num_late h _ _).mono ?_; rintro e w1 ⟨rfl, rfl⟩))
  go_ret
  exact ⟨rfl, rfl⟩
/-- What the laws of this chapter carry. -/
def WL (A : Nat → Addr) (w0 w : World) : Prop := Below w0.heap.size w0 w ∧ Sen A w
theorem WL.step {A : Nat → Addr} {w0 w w' : World} (h : WL A w0 w) (hb : Below w.heap.size w w') : WL A w0 w' := ⟨h.1.trans (hb.mono h.1.size), h.2.below hb⟩
theorem WL.bel {A : Nat → Addr} {w0 w : World} (h : WL A w0 w) : Below w0.heap.size w0 w := h.1
theorem WL.sen {A : Nat → Addr} {w0 w : World} (h : WL A w0 w) : Sen A w := h.2
theorem WL.alloc {A : Nat → Addr} {w0 w : World} (h : WL A w0 w) (o : Obj) : WL A w0 (w.alloc o) := h.step ((Below.refl _ _).alloc (Nat.le_refl _) o)
theorem Sen.grown {A : Nat → Addr} {w w1 w' : World} {p : Nat} (h0 : Sen A w1) (hb : Below w1.heap.size w1 w) (hp : w1.heap.size ≤ p) (hg : w.grownBy w' (some p)) : Sen A w' := by
  refine Errs.below h0 (hb.grown hg hb.size (fun k hk => ?_))
  obtain rfl := Option.some.inj hk
  exact hp
/-- A write to a block p of the reader's own: what was there ahead of the reader is as it was. -/
theorem WL.own {A : Nat → Addr} {w0 w1 w w' : World} {p : Nat} (h : WL A w0 w1) (hb : Below w1.heap.size w1 w) (hp : w1.heap.size ≤ p) (hg : w.grownBy w' (some p)) : WL A w0 w' ∧ Below w1.heap.size w1 w' := by
  have h2 : Below w1.heap.size w1 w' := hb.grown hg hb.size (fun k hk => by obtain rfl := Option.some.inj hk; exact hp)
  exact ⟨h.step h2, h2⟩
theorem encs_one (n : Int) : encs [n] = enc (zig n) := by simp [encs]
theorem pars_first (n : Int) (h1 : -9223372036854775808 ≤ n) (h2 : n ≤ 9223372036854775807) (r : List Nat) : pars 0 0 ((encs [n] ++ r).drop 0) = (zig n, (encs [n]).length, 0) := by
  rw [encs_one, List.drop_zero]
  have := pars_enc (zig n) (zig n) 0 0 r (Nat.le_refl _) (fun h => by omega) (by simpa using zig_lt h1 h2)
  simpa using this
theorem faultB_self (c n : Int) (p : Bool) : faultB c n c n p p = true := by simp [faultB]
set_option maxRecDepth 100000 in
set_option maxHeartbeats 4000000 in
theorem ranges_none_in (A : Nat → Addr) (a0 a1 a2 : Int) (w : World) (hA : Sen A w) (r0 : -9223372036854775808 ≤ a0) (r1 : a0 ≤ 9223372036854775807) (x1 : a1 ≤ a0) (x2 : a0 ≤ a2) :
    Calls Tryd.prog 5 #[.int .i64 a0, .int .i64 a1, .int .i64 a2, .slice (none) 0 0] w fun e w' => e = .returned (.bool true) ∧ Below w.heap.size w w' := by
  have HR := Lib.hid (⟨r0, r1⟩ : -9223372036854775808 ≤ a0 ∧ a0 ≤ 9223372036854775807)
  clear r0 r1
  have HK : WL A w w := ⟨Below.refl _ _, hA⟩
  clear hA
  have hle : (encs [a0]).length ≤ 10 := by have := encs_len [a0] (by simp; exact HR.out); simpa using this
  go_enter Tryd.func5, Tryd.ntmps5
  go_wp2_with fail
  refine (wfirst_any _).mono ?_
  rintro e w1 ⟨rfl, hb1⟩
  have HK1 := HK.step hb1
  clear hb1
  go_wp2_with fail
  refine (put_nil_out (some ⟨w1.heap.size, 0, none⟩) 0 1 1 [a0] _ rfl (by simp) (srcL_one w1 a0 _ HR.out)).mono ?_
  rintro e w2 ⟨ab, cb, rfl, hs2, ha2, hc2a, hc2b, hb2⟩
  have HK2 := (HK1.alloc _).step hb2
  have HS2 := Lib.hid hs2
  clear hs2 ha2 hb2 HK1
  have hcb : cb ≤ 9223372036854775807 := by unfold maxLen at hc2b; exact hc2b
  clear hc2b
  go_wp2_with fail
  refine (bytes_any ab cb (encs [a0]) _ (by omega) HS2.out).mono ?_
  rintro e w3 ⟨v3, rfl, hown3, hb3⟩
  have HK3 := HK2.step hb3
  have hz3 : w2.heap.size ≤ w3.heap.size := hb3.size
  have HO := Lib.hid hown3
  obtain ⟨i0, hi, hz0, hz1, hz2⟩ := info_parts infoByte
  have HI := Lib.hid hi
  have HX : Hid (w3.ownsRow w2.heap.size 5 1 v3 (encs [a0]).length ((encs [a0] ++ ([] : List Nat)).map bc)) := Lib.hid (by simpa using hown3)
  clear hown3 hb3 hi hz0 hz1 hz2
  go_wp2_with (first | (at_builtin; refine wpList_append_own_none rfl _ _ 22 rfl w2.heap.size 5 i0 1 Tryd.underlying22 HI.out _ (encs [a0]).length ((encs [a0]).map bc) rfl HO.out rfl ?_))
  refine (nr_own w2.heap.size _ v3 (encs [a0] ++ ([] : List Nat)) _ HX.out (by intro y hy; rcases List.mem_append.1 hy with h | h; exact encs_byte [a0] y h; simp at h) (by simp; omega)).mono ?_
  rintro e w5 ⟨p, g, rfl, hrd, hp, hg, hb5⟩
  have HB5 := Lib.hid hb5
  have HRD := Lib.hid hrd
  clear hrd hb5 HX
  have hlb : (encs [a0] ++ ([] : List Nat)).length ≤ 1000000 := by simp; omega
  have hl0 : 0 < (encs [a0] ++ ([] : List Nat)).length := by simp only [List.length_append, encs_one]; have := List.length_pos_iff.2 (enc_ne (zig a0)); omega
  have HLB := Lib.hid hlb
  have HL0 := Lib.hid hl0
  clear hlb hl0
  go_wp2_with fail
  refine (rd_num_ok HRD.out HLB.out HL0.out (zig a0) (encs [a0]).length (pars_first a0 HR.out.1 HR.out.2 _) a1 a2 a0 (zag_zig a0) x1 x2 (zig_lt HR.out.1 HR.out.2) hle).mono ?_
  rintro e w6 ⟨rfl, hrd6, hg6⟩
  obtain ⟨HK6, hb6⟩ := HK3.own HB5.out hp hg6
  have HRD6 : Hid (Rd w6 p g (encs [a0]).length (encs [a0] ++ ([] : List Nat)) .nilIface) := Lib.hid (by simpa using hrd6)
  clear hrd6 hg6 hb6
  go_wp2_with (first | (go_at_call 20; refine (rd_err HRD6.out).mono ?_; rintro e w7 ⟨rfl, rfl⟩) | (go_at_call 23; refine (rd_at HRD6.out).mono ?_; rintro e w7 ⟨rfl, rfl⟩) | (go_at_call 19; refine (rd_left HRD6.out HLB.out (by simp)).mono ?_; rintro e w8 ⟨rfl, hb8⟩))
  go_ret
  refine ⟨?_, (HK6.step hb8).bel⟩
  first | (simp; done) | (simp; omega)
set_option maxRecDepth 100000 in
set_option maxHeartbeats 4000000 in
theorem ranges_none_out (A : Nat → Addr) (a0 a1 a2 : Int) (w : World) (hA : Sen A w) (r0 : -9223372036854775808 ≤ a0) (r1 : a0 ≤ 9223372036854775807) (x : a0 < a1 ∨ a2 < a0) :
    Calls Tryd.prog 5 #[.int .i64 a0, .int .i64 a1, .int .i64 a2, .slice (none) 0 0] w fun e w' => e = .returned (.bool true) ∧ Below w.heap.size w w' := by
  have HR := Lib.hid (⟨r0, r1⟩ : -9223372036854775808 ≤ a0 ∧ a0 ≤ 9223372036854775807)
  clear r0 r1
  have HK : WL A w w := ⟨Below.refl _ _, hA⟩
  clear hA
  have HXX := Lib.hid x
  clear x
  have hle : (encs [a0]).length ≤ 10 := by have := encs_len [a0] (by simp; exact HR.out); simpa using this
  go_enter Tryd.func5, Tryd.ntmps5
  go_wp2_with fail
  refine (wfirst_any _).mono ?_
  rintro e w1 ⟨rfl, hb1⟩
  have HK1 := HK.step hb1
  clear hb1
  go_wp2_with fail
  refine (put_nil_out (some ⟨w1.heap.size, 0, none⟩) 0 1 1 [a0] _ rfl (by simp) (srcL_one w1 a0 _ HR.out)).mono ?_
  rintro e w2 ⟨ab, cb, rfl, hs2, ha2, hc2a, hc2b, hb2⟩
  have HK2 := (HK1.alloc _).step hb2
  have HS2 := Lib.hid hs2
  clear hs2 ha2 hb2 HK1
  have hcb : cb ≤ 9223372036854775807 := by unfold maxLen at hc2b; exact hc2b
  clear hc2b
  go_wp2_with fail
  refine (bytes_any ab cb (encs [a0]) _ (by omega) HS2.out).mono ?_
  rintro e w3 ⟨v3, rfl, hown3, hb3⟩
  have HK3 := HK2.step hb3
  have hz3 : w2.heap.size ≤ w3.heap.size := hb3.size
  have HO := Lib.hid hown3
  obtain ⟨i0, hi, hz0, hz1, hz2⟩ := info_parts infoByte
  have HI := Lib.hid hi
  have HX : Hid (w3.ownsRow w2.heap.size 5 1 v3 (encs [a0]).length ((encs [a0] ++ ([] : List Nat)).map bc)) := Lib.hid (by simpa using hown3)
  clear hown3 hb3 hi hz0 hz1 hz2
  go_wp2_with (first | (at_builtin; refine wpList_append_own_none rfl _ _ 22 rfl w2.heap.size 5 i0 1 Tryd.underlying22 HI.out _ (encs [a0]).length ((encs [a0]).map bc) rfl HO.out rfl ?_))
  refine (nr_own w2.heap.size _ v3 (encs [a0] ++ ([] : List Nat)) _ HX.out (by intro y hy; rcases List.mem_append.1 hy with h | h; exact encs_byte [a0] y h; simp at h) (by simp; omega)).mono ?_
  rintro e w5 ⟨p, g, rfl, hrd, hp, hg, hb5⟩
  have HB5 := Lib.hid hb5
  have HRD := Lib.hid hrd
  clear hrd hb5 HX
  have hlb : (encs [a0] ++ ([] : List Nat)).length ≤ 1000000 := by simp; omega
  have hl0 : 0 < (encs [a0] ++ ([] : List Nat)).length := by simp only [List.length_append, encs_one]; have := List.length_pos_iff.2 (enc_ne (zig a0)); omega
  have HLB := Lib.hid hlb
  have HL0 := Lib.hid hl0
  clear hlb hl0
  go_wp2_with fail
  refine (rd_num_range HRD.out HLB.out HL0.out (zig a0) (encs [a0]).length (pars_first a0 HR.out.1 HR.out.2 _) a1 a2 a0 (zag_zig a0) HXX.out (zig_lt HR.out.1 HR.out.2) (sA A 2) ((HK3.step HB5.out).sen.cell 2 (by decide)).1).mono ?_
  rintro e w6 ⟨rfl, ⟨q, hrd6, hq, hq0, hq1⟩, hg6⟩
  obtain ⟨HK6, hb6⟩ := HK3.own HB5.out hp hg6
  have HRD6 := Lib.hid hrd6
  have HF : FaultIs (Value.iface 76 (.pointer (some ⟨q, 0, none⟩))) (101 + ((2 : Nat) : Int)) 0 true w6 := FaultIs.at HK6.sen 2 (by decide) 0 q ⟨hq, hq0, hq1⟩
  have HFF := Lib.hid HF
  clear hrd6 hg6 hb6 hq hq0 hq1 HF
  rcases (show a0 < a1 ∨ (a1 ≤ a0 ∧ a2 < a0) by have := HXX.out; omega) with hx | ⟨hx1, hx⟩
  all_goals
    go_wp2_with (first | (go_at_call 18; refine (rd_num_late HRD6.out _ _).mono ?_; rintro e w7 ⟨rfl, rfl⟩) | (go_at_call 24; refine (rd_bool_late HRD6.out).mono ?_; rintro e w7 ⟨rfl, rfl⟩) | (go_at_call 20; refine (rd_err HRD6.out).mono ?_; rintro e w7 ⟨rfl, rfl⟩) | (go_at_call 23; refine (rd_at HRD6.out).mono ?_; rintro e w7 ⟨rfl, rfl⟩) | (go_at_call 22; refine (placed_is 103 0 (by decide) _).mono ?_; rintro e w8 ⟨rfl, hb8⟩) | (go_at_call 21; refine (same_any _ _ _ _ _ _ _ _ (HFF.out.later hb8)).mono ?_; rintro e w9 ⟨rfl, hb9⟩))
    go_ret
    refine ⟨?_, ((HK6.step hb8).step hb9).bel⟩
    simp [faultB]
set_option maxRecDepth 100000 in
set_option maxHeartbeats 4000000 in
theorem ranges_some_in (A : Nat → Addr) (a0 a1 a2 : Int) (ad : Addr) (c3 : Nat) (ms : List Nat) (w : World) (hA : Sen A w) (r0 : -9223372036854775808 ≤ a0) (r1 : a0 ≤ 9223372036854775807) (hm : SrcB w (some ad) ms) (hm0 : ms.length ≤ 50) (hmd : 0 < ms.length → ad.block < w.heap.size) (x1 : a1 ≤ a0) (x2 : a0 ≤ a2) :
    Calls Tryd.prog 5 #[.int .i64 a0, .int .i64 a1, .int .i64 a2, .slice (some ad) ms.length c3] w fun e w' => e = .returned (.bool true) ∧ Below w.heap.size w w' := by
  have HR := Lib.hid (⟨r0, r1⟩ : -9223372036854775808 ≤ a0 ∧ a0 ≤ 9223372036854775807)
  clear r0 r1
  have HK : WL A w w := ⟨Below.refl _ _, hA⟩
  clear hA
  have HM := Lib.hid hm
  have HMD := Lib.hid hmd
  clear hm hmd
  have hle : (encs [a0]).length ≤ 10 := by have := encs_len [a0] (by simp; exact HR.out); simpa using this
  go_enter Tryd.func5, Tryd.ntmps5
  go_wp2_with fail
  refine (wfirst_any _).mono ?_
  rintro e w1 ⟨rfl, hb1⟩
  have HK1 := HK.step hb1
  clear hb1
  go_wp2_with fail
  refine (put_nil_out (some ⟨w1.heap.size, 0, none⟩) 0 1 1 [a0] _ rfl (by simp) (srcL_one w1 a0 _ HR.out)).mono ?_
  rintro e w2 ⟨ab, cb, rfl, hs2, ha2, hc2a, hc2b, hb2⟩
  have HK2 := (HK1.alloc _).step hb2
  have HS2 := Lib.hid hs2
  clear hs2 ha2 hb2 HK1
  have hcb : cb ≤ 9223372036854775807 := by unfold maxLen at hc2b; exact hc2b
  clear hc2b
  go_wp2_with fail
  refine (bytes_any ab cb (encs [a0]) _ (by omega) HS2.out).mono ?_
  rintro e w3 ⟨v3, rfl, hown3, hb3⟩
  have HK3 := HK2.step hb3
  have hz3 : w2.heap.size ≤ w3.heap.size := hb3.size
  have HO := Lib.hid hown3
  have HB3 := Lib.hid hb3
  clear hown3 hb3
  obtain ⟨i0, hi, hz0, hz1, hz2⟩ := info_parts infoByte
  have HI := Lib.hid (⟨hi, hz0, hz1, hz2⟩ : Tryd.prog.info? 5 = some i0 ∧ i0.zero = some (.int .u8 0) ∧ i0.size = 1 ∧ i0.bytes = 1)
  clear hi hz0 hz1 hz2
  go_wp2_with (first | (at_builtin; refine wpList_append_own _ rfl _ _ 22 rfl w2.heap.size 5 i0 (.int .u8 0) 1 1 Tryd.underlying22 HI.out.1 HI.out.2.1 HI.out.2.2.1 HI.out.2.2.2 rfl (by decide) _ _ _ rfl HO.out ad ms.length c3 (ms.map bc) rfl (by simp) ?c1 ?c2 ?c3 ?c4 ?c5 ?_))
  case c1 =>
    intro j u hj
    rw [List.getElem?_map] at hj
    obtain ⟨x, hx1, hx2⟩ := Option.map_eq_some_iff.1 hj
    obtain ⟨hjl, hjx⟩ := List.getElem?_eq_some_iff.1 hx1
    have h1 := ((HM.out.2.2 ad rfl).below HK3.bel (HMD.out (by omega)) j hjl).1
    rw [show ms.getD j 0 = x by simp [List.getD, hx1], hx2] at h1
    exact h1
  case c2 => intro u hu; simp at hu; obtain ⟨x, _, rfl⟩ := hu; rfl
  case c3 => unfold maxLen; omega
  case c4 => omega
  case c5 => exact hz3
  intro v4 w4 hown4 hgrow4 _
  have HX : Hid (w4.ownsRow w2.heap.size 5 1 v4 ((encs [a0]).length + ms.length) ((encs [a0] ++ ms).map bc)) := Lib.hid (by rw [List.map_append]; exact hown4)
  have hb24 := own_grown2 HB3.out hz3 HO.out hgrow4 rfl
  have HK4 := HK2.step hb24
  clear hown4 hgrow4 hb24 HK3
  go_wp2_with fail
  refine (nr_own w2.heap.size _ v4 (encs [a0] ++ ms) _ HX.out (by intro y hy; rcases List.mem_append.1 hy with h | h; exact encs_byte [a0] y h; exact HM.out.1 y h) (by simp; omega)).mono ?_
  rintro e w5 ⟨p, g, rfl, hrd, hp, hg, hb5⟩
  have HB5 := Lib.hid hb5
  have HRD := Lib.hid hrd
  clear hrd hb5 HX
  have hlb : (encs [a0] ++ ms).length ≤ 1000000 := by simp; omega
  have hl0 : 0 < (encs [a0] ++ ms).length := by simp only [List.length_append, encs_one]; have := List.length_pos_iff.2 (enc_ne (zig a0)); omega
  have HLB := Lib.hid hlb
  have HL0 := Lib.hid hl0
  clear hlb hl0
  go_wp2_with fail
  refine (rd_num_ok HRD.out HLB.out HL0.out (zig a0) (encs [a0]).length (pars_first a0 HR.out.1 HR.out.2 _) a1 a2 a0 (zag_zig a0) x1 x2 (zig_lt HR.out.1 HR.out.2) hle).mono ?_
  rintro e w6 ⟨rfl, hrd6, hg6⟩
  obtain ⟨HK6, hb6⟩ := HK4.own HB5.out hp hg6
  have HRD6 : Hid (Rd w6 p g (encs [a0]).length (encs [a0] ++ ms) .nilIface) := Lib.hid (by simpa using hrd6)
  clear hrd6 hg6 hb6
  go_wp2_with (first | (go_at_call 20; refine (rd_err HRD6.out).mono ?_; rintro e w7 ⟨rfl, rfl⟩) | (go_at_call 23; refine (rd_at HRD6.out).mono ?_; rintro e w7 ⟨rfl, rfl⟩) | (go_at_call 19; refine (rd_left HRD6.out HLB.out (by simp)).mono ?_; rintro e w8 ⟨rfl, hb8⟩))
  go_ret
  refine ⟨?_, (HK6.step hb8).bel⟩
  first | (simp; done) | (simp; omega)
set_option maxRecDepth 100000 in
set_option maxHeartbeats 4000000 in
theorem ranges_some_out (A : Nat → Addr) (a0 a1 a2 : Int) (ad : Addr) (c3 : Nat) (ms : List Nat) (w : World) (hA : Sen A w) (r0 : -9223372036854775808 ≤ a0) (r1 : a0 ≤ 9223372036854775807) (hm : SrcB w (some ad) ms) (hm0 : ms.length ≤ 50) (hmd : 0 < ms.length → ad.block < w.heap.size) (x : a0 < a1 ∨ a2 < a0) :
    Calls Tryd.prog 5 #[.int .i64 a0, .int .i64 a1, .int .i64 a2, .slice (some ad) ms.length c3] w fun e w' => e = .returned (.bool true) ∧ Below w.heap.size w w' := by
  have HR := Lib.hid (⟨r0, r1⟩ : -9223372036854775808 ≤ a0 ∧ a0 ≤ 9223372036854775807)
  clear r0 r1
  have HK : WL A w w := ⟨Below.refl _ _, hA⟩
  clear hA
  have HM := Lib.hid hm
  have HMD := Lib.hid hmd
  clear hm hmd
  have HXX := Lib.hid x
  clear x
  have hle : (encs [a0]).length ≤ 10 := by have := encs_len [a0] (by simp; exact HR.out); simpa using this
  go_enter Tryd.func5, Tryd.ntmps5
  go_wp2_with fail
  refine (wfirst_any _).mono ?_
  rintro e w1 ⟨rfl, hb1⟩
  have HK1 := HK.step hb1
  clear hb1
  go_wp2_with fail
  refine (put_nil_out (some ⟨w1.heap.size, 0, none⟩) 0 1 1 [a0] _ rfl (by simp) (srcL_one w1 a0 _ HR.out)).mono ?_
  rintro e w2 ⟨ab, cb, rfl, hs2, ha2, hc2a, hc2b, hb2⟩
  have HK2 := (HK1.alloc _).step hb2
  have HS2 := Lib.hid hs2
  clear hs2 ha2 hb2 HK1
  have hcb : cb ≤ 9223372036854775807 := by unfold maxLen at hc2b; exact hc2b
  clear hc2b
  go_wp2_with fail
  refine (bytes_any ab cb (encs [a0]) _ (by omega) HS2.out).mono ?_
  rintro e w3 ⟨v3, rfl, hown3, hb3⟩
  have HK3 := HK2.step hb3
  have hz3 : w2.heap.size ≤ w3.heap.size := hb3.size
  have HO := Lib.hid hown3
  have HB3 := Lib.hid hb3
  clear hown3 hb3
  obtain ⟨i0, hi, hz0, hz1, hz2⟩ := info_parts infoByte
  have HI := Lib.hid (⟨hi, hz0, hz1, hz2⟩ : Tryd.prog.info? 5 = some i0 ∧ i0.zero = some (.int .u8 0) ∧ i0.size = 1 ∧ i0.bytes = 1)
  clear hi hz0 hz1 hz2
  go_wp2_with (first | (at_builtin; refine wpList_append_own _ rfl _ _ 22 rfl w2.heap.size 5 i0 (.int .u8 0) 1 1 Tryd.underlying22 HI.out.1 HI.out.2.1 HI.out.2.2.1 HI.out.2.2.2 rfl (by decide) _ _ _ rfl HO.out ad ms.length c3 (ms.map bc) rfl (by simp) ?c1 ?c2 ?c3 ?c4 ?c5 ?_))
  case c1 =>
    intro j u hj
    rw [List.getElem?_map] at hj
    obtain ⟨x, hx1, hx2⟩ := Option.map_eq_some_iff.1 hj
    obtain ⟨hjl, hjx⟩ := List.getElem?_eq_some_iff.1 hx1
    have h1 := ((HM.out.2.2 ad rfl).below HK3.bel (HMD.out (by omega)) j hjl).1
    rw [show ms.getD j 0 = x by simp [List.getD, hx1], hx2] at h1
    exact h1
  case c2 => intro u hu; simp at hu; obtain ⟨x, _, rfl⟩ := hu; rfl
  case c3 => unfold maxLen; omega
  case c4 => omega
  case c5 => exact hz3
  intro v4 w4 hown4 hgrow4 _
  have HX : Hid (w4.ownsRow w2.heap.size 5 1 v4 ((encs [a0]).length + ms.length) ((encs [a0] ++ ms).map bc)) := Lib.hid (by rw [List.map_append]; exact hown4)
  have hb24 := own_grown2 HB3.out hz3 HO.out hgrow4 rfl
  have HK4 := HK2.step hb24
  clear hown4 hgrow4 hb24 HK3
  go_wp2_with fail
  refine (nr_own w2.heap.size _ v4 (encs [a0] ++ ms) _ HX.out (by intro y hy; rcases List.mem_append.1 hy with h | h; exact encs_byte [a0] y h; exact HM.out.1 y h) (by simp; omega)).mono ?_
  rintro e w5 ⟨p, g, rfl, hrd, hp, hg, hb5⟩
  have HB5 := Lib.hid hb5
  have HRD := Lib.hid hrd
  clear hrd hb5 HX
  have hlb : (encs [a0] ++ ms).length ≤ 1000000 := by simp; omega
  have hl0 : 0 < (encs [a0] ++ ms).length := by simp only [List.length_append, encs_one]; have := List.length_pos_iff.2 (enc_ne (zig a0)); omega
  have HLB := Lib.hid hlb
  have HL0 := Lib.hid hl0
  clear hlb hl0
  go_wp2_with fail
  refine (rd_num_range HRD.out HLB.out HL0.out (zig a0) (encs [a0]).length (pars_first a0 HR.out.1 HR.out.2 _) a1 a2 a0 (zag_zig a0) HXX.out (zig_lt HR.out.1 HR.out.2) (sA A 2) ((HK4.step HB5.out).sen.cell 2 (by decide)).1).mono ?_
  rintro e w6 ⟨rfl, ⟨q, hrd6, hq, hq0, hq1⟩, hg6⟩
  obtain ⟨HK6, hb6⟩ := HK4.own HB5.out hp hg6
  have HRD6 := Lib.hid hrd6
  have HF : FaultIs (Value.iface 76 (.pointer (some ⟨q, 0, none⟩))) (101 + ((2 : Nat) : Int)) 0 true w6 := FaultIs.at HK6.sen 2 (by decide) 0 q ⟨hq, hq0, hq1⟩
  have HFF := Lib.hid HF
  clear hrd6 hg6 hb6 hq hq0 hq1 HF
  rcases (show a0 < a1 ∨ (a1 ≤ a0 ∧ a2 < a0) by have := HXX.out; omega) with hx | ⟨hx1, hx⟩
  all_goals
    go_wp2_with (first | (go_at_call 18; refine (rd_num_late HRD6.out _ _).mono ?_; rintro e w7 ⟨rfl, rfl⟩) | (go_at_call 24; refine (rd_bool_late HRD6.out).mono ?_; rintro e w7 ⟨rfl, rfl⟩) | (go_at_call 20; refine (rd_err HRD6.out).mono ?_; rintro e w7 ⟨rfl, rfl⟩) | (go_at_call 23; refine (rd_at HRD6.out).mono ?_; rintro e w7 ⟨rfl, rfl⟩) | (go_at_call 22; refine (placed_is 103 0 (by decide) _).mono ?_; rintro e w8 ⟨rfl, hb8⟩) | (go_at_call 21; refine (same_any _ _ _ _ _ _ _ _ (HFF.out.later hb8)).mono ?_; rintro e w9 ⟨rfl, hb9⟩))
    go_ret
    refine ⟨?_, ((HK6.step hb8).step hb9).bel⟩
    simp [faultB]
end Go.Proofs.YtggnaalcdekccaaDoor
