/-
  package queue: Has, Len, Put.
-/
import Derived.Test.YtahhnfhnlffmpaaDoorQv
namespace Go.Proofs.YtahhnfhnlffmpaaDoor.V
open Go.ChangeShapes Go.WideShapes Go.ChangeAt Go.RowKit Go.Maps
set_option linter.unusedVariables false
theorem qhas_m {base q o b M : Nat} {l : List Int} {v : Value} {D : DataW Unit} (x : Int) (hx : wfI x) (t : Bool) (ht : Hid (l.contains x = t)) (w : World) (h : VM w base q o b l v M D) :
    Calls Tryd.prog 64 #[.pointer (some ⟨q, o, none⟩), .int .i64 x] w fun e w' => e = .returned (.bool t) ∧ Below w.heap.size w w' := by
  have HT : Hid (Maps.has D (kI x) = t) := Lib.hid (by rw [h.has x]; exact ht.out)
  have H := Lib.hid h
  have c1 := h.c1
  have hkey := hx.key
  clear h ht
  go_enter Tryd.func64, Tryd.ntmps64
  go_wp2_with (first | (at_lookup; refine wpList_lookup_own_unit _ rfl _ _ 133 rfl 3 158 lawI Tryd.underlying133 (zeroU _) M b D rfl H.out.mp _ _ rfl hkey ?_; rw [HT.out]))
  go_ret
  exact ⟨rfl, (Below.refl _ _).alloc (Nat.le_refl _) _⟩
theorem qhas_n {q o : Nat} (x : Int) (hx : wfI x) (w : World) (hc : w.cell? ⟨q, o + 1, none⟩ = some (.map none)) :
    Calls Tryd.prog 64 #[.pointer (some ⟨q, o, none⟩), .int .i64 x] w fun e w' => e = .returned (.bool false) ∧ Below w.heap.size w w' := by
  have hl := fun W : World => Maps.look_nil (w := W) true lawI Tryd.underlying133 (zeroU W) hx.key
  simp only [if_true] at hl
  go_enter Tryd.func64, Tryd.ntmps64
  go_wp2
  go_ret
  exact ⟨rfl, (Below.refl _ _).alloc (Nat.le_refl _) _⟩
/-- Numbers in a row, apart from a queue. -/
structure Src (w : World) (a : Option Addr) (zs : List Int) (S : Nat → Prop) : Prop where
  vals : ∀ x ∈ zs, wfI x
  src : zs ≠ [] → ∃ ad, a = some ad ∧ ad.block < w.heap.size ∧ ¬ S ad.block ∧ ∀ i, i < zs.length → w.cell? (ad.add i) = some (.int .i64 (zs.getD i 0))
theorem add_block' (ad : Addr) (n : Nat) : (ad.add n).block = ad.block := by unfold Addr.add; split <;> rfl
theorem Src.kept {q o : Nat} {w w' : World} {a : Option Addr} {zs : List Int} {S S' : Nat → Prop} (h : Src w a zs S) (hf : VFr q o w w' S S') : Src w' a zs S' := by
  refine ⟨h.vals, fun hz => ?_⟩
  obtain ⟨ad, h1, h2, h3, h4⟩ := h.src hz
  have := hf.block _ h2 h3
  exact ⟨ad, h1, Nat.lt_of_lt_of_le h2 hf.size, this.2, fun i hi => (World.cell?_of_block (by rw [add_block']; exact this.1)).trans (h4 i hi)⟩
theorem ret_i64 {a b : Int} (h : a = b) : Ending.returned (.int .i64 a) = .returned (.int .i64 b) := by rw [h]
theorem cnt_step (a b c : Nat) (h : c = a + 1) : Value.int .i64 ((a : Int) - b + 1) = .int .i64 ((c : Int) - b) := by
  rw [h]
  congr 1
  omega
theorem VM.mid3 {w w2 w3 : World} {base q o b M : Nat} {l : List Int} {v : Value} {D : DataW Unit} {ob : Obj} (h : VM w base q o b l v M D) (hg : w.grownBy w2 (some M)) (hg3 : (w2.alloc ob).grownBy w3 v.ownBlock) : w3.cell? ⟨q, o, none⟩ = some v ∧ w3.frozen? ⟨q, o, none⟩ = false :=
  ⟨(same_cells (h.mid hg hg3) o).1.trans h.c0, (same_cells (h.mid hg hg3) o).2.trans h.f0⟩
theorem owns_slice {w : World} {B E s n : Nat} {v : Value} {xs : List Value} (h : w.ownsRow B E s v n xs) (hn : 0 < n) : ∃ g c, v = .slice (some ⟨g, 0, none⟩) n c := by
  rcases h.2 with ⟨_, h0⟩ | ⟨g, cap, cur, rfl, _⟩
  · omega
  · exact ⟨g, cap, rfl⟩
/-- The round's state of Put. -/
def PutR (w : World) (base q o b m : Nat) (l zs : List Int) (v : Value) (M : Nat) (c i : Value) (wr : World) : Prop :=
  ∃ (k : Nat) (l' : List Int) (v' : Value) (D' : DataW Unit), k ≤ m ∧ i = .int .i64 k ∧ l' = putAll l (zs.take k) ∧ c = .int .i64 ((l'.length : Int) - l.length) ∧ VM wr base q o (b + k) l' v' M D' ∧ VFr q o w wr (SM q v M) (SM q v' M)
/-- A queue, empty as it is laid or not; its blocks. -/
def VI (w : World) (base q o b : Nat) (l : List Int) (S : Nat → Prop) : Prop :=
  (VN w q o ∧ l = [] ∧ S = SN q) ∨ ∃ v M D, VM w base q o b l v M D ∧ S = SM q v M
section
variable {w w' : World} {base q o b : Nat} {l : List Int} {S : Nat → Prop}
theorem VI.lo (h : VI w base q o b l S) : ∀ k, S k → k = q ∨ base ≤ k := by
  rcases h with ⟨h1, h2, rfl⟩ | ⟨v, M, D, h, rfl⟩
  · exact fun k hk => .inl hk
  · exact h.lo
theorem VI.lt (h : VI w base q o b l S) : q < w.heap.size := by
  rcases h with ⟨h1, h2, rfl⟩ | ⟨v, M, D, h, rfl⟩
  · exact h1.lt
  · exact h.lt
theorem VI.mem (h : VI w base q o b l S) : S q := by
  rcases h with ⟨h1, h2, rfl⟩ | ⟨v, M, D, h, rfl⟩
  · exact rfl
  · exact .inl rfl
theorem VI.hi (h : VI w base q o b l S) : ∀ k, S k → k < w.heap.size := by
  rcases h with ⟨h1, h2, rfl⟩ | ⟨v, M, D, h, rfl⟩
  · intro k hk
    rw [show k = q from hk]
    exact h1.lt
  · exact h.hi
theorem VI.same (h : VI w base q o b l S) (h0 : ∀ j, j = o ∨ j = o + 1 → w'.cell? ⟨q, j, none⟩ = w.cell? ⟨q, j, none⟩ ∧ w'.frozen? ⟨q, j, none⟩ = w.frozen? ⟨q, j, none⟩) (hb : ∀ k, S k → k ≠ q → w'.heap[k]? = w.heap[k]?) : VI w' base q o b l S := by
  rcases h with ⟨h1, h2, rfl⟩ | ⟨v, M, D, h, rfl⟩
  · exact .inl ⟨h1.same h0, h2, rfl⟩
  · exact .inr ⟨v, M, D, h.same h0 hb, rfl⟩
theorem VI.below (h : VI w base q o b l S) (hb : Below w.heap.size w w') : VI w' base q o b l S := h.same (fun j _ => same_cells (hb.block q h.lt) j) fun k hk _ => hb.block k (h.hi k hk)
theorem VI.more {b' : Nat} (h : VI w base q o b l S) (hb : b ≤ b') : VI w base q o b' l S := by
  rcases h with ⟨h1, h2, rfl⟩ | ⟨v, M, D, h, rfl⟩
  · exact .inl ⟨h1, h2, rfl⟩
  · exact .inr ⟨v, M, D, h.more hb, rfl⟩
theorem VI.map (h : VI w base q o b l S) : ∃ mo, w.cell? ⟨q, o + 1, none⟩ = some (.map mo) ∧ ((mo = none ∧ VN w q o ∧ l = [] ∧ S = SN q) ∨ ∃ v M D, mo = some M ∧ VM w base q o b l v M D ∧ S = SM q v M) := by
  rcases h with ⟨h1, h2, rfl⟩ | ⟨v, M, D, h, rfl⟩
  · exact ⟨none, h1.c1, .inl ⟨rfl, h1, h2, rfl⟩⟩
  · exact ⟨some M, h.c1, .inr ⟨v, M, D, rfl, h, rfl⟩⟩
theorem VI.vals (h : VI w base q o b l S) : ∀ x ∈ l, wfI x := by
  rcases h with ⟨h1, rfl, rfl⟩ | ⟨v, M, D, h, rfl⟩
  · simp
  · exact h.vals
theorem VI.nd (h : VI w base q o b l S) : l.Nodup := by
  rcases h with ⟨h1, rfl, rfl⟩ | ⟨v, M, D, h, rfl⟩
  · exact List.nodup_nil
  · exact h.nd
theorem VI.row (h : VI w base q o b l S) : ∃ a c, w.cell? ⟨q, o, none⟩ = some (.slice a l.length c) ∧ w.ownsRow base 3 1 (.slice a l.length c) l.length (l.map (Value.int .i64)) ∧ (∀ ad, a = some ad → S ad.block) := by
  rcases h with ⟨h1, rfl, rfl⟩ | ⟨v, M, D, h, rfl⟩
  · exact ⟨none, 0, h1.c0, World.ownsRow_nil _ _ _ _, by simp⟩
  · have hr := h.row
    rcases h.row.2 with ⟨rfl, h0⟩ | ⟨g, cap, cur, rfl, _⟩
    · exact ⟨none, 0, by rw [h0]; exact h.c0, by rw [h0] at hr ⊢; exact hr, by simp⟩
    · exact ⟨some ⟨g, 0, none⟩, cap, h.c0, hr, fun ad e => by injection e with e; rw [← e]; exact .inr (.inl rfl)⟩
end
theorem qhas_is {base q o b : Nat} {l : List Int} {S : Nat → Prop} (x : Int) (hx : wfI x) (t : Bool) (ht : Hid (l.contains x = t)) (w : World) (h : VI w base q o b l S) :
    Calls Tryd.prog 64 #[.pointer (some ⟨q, o, none⟩), .int .i64 x] w fun e w' => e = .returned (.bool t) ∧ Below w.heap.size w w' := by
  rcases h with ⟨h1, rfl, rfl⟩ | ⟨v, M, D, h, rfl⟩
  · have e : t = false := by rw [← ht.out]; rfl
    rw [e]
    exact qhas_n x hx w h1.c1
  · exact qhas_m x hx t ht w h
set_option maxRecDepth 100000 in
set_option maxHeartbeats 8000000 in
theorem qput_is {base q o b : Nat} {l : List Int} {S : Nat → Prop} (a : Option Addr) (m c : Nat) (zs : List Int) (hm : Hid (zs.length = m)) (hz : m ≤ 100000) (hl : l.length ≤ 100000) (hb : b ≤ 100000) (r : Int) (hr : Hid (((putAll l zs).length : Int) - l.length = r)) (w : World) (h : VI w base q o b l S) (hs : Src w a zs S) (hB : base ≤ w.heap.size) :
    Calls Tryd.prog 66 #[.pointer (some ⟨q, o, none⟩), .slice a m c] w fun e w' => ∃ S', e = .returned (.int .i64 r) ∧ VI w' base q o (b + m) (putAll l zs) S' ∧ VFr q o w w' S S' := by
  obtain ⟨i0, hi, hz0, hz1, hz2⟩ := info_parts infoInt
  have HI := Lib.hid (⟨hi, hz0, hz1, hz2⟩ : Tryd.prog.info? 3 = some i0 ∧ i0.zero = some (.int .i64 0) ∧ i0.size = 1 ∧ i0.bytes = 8)
  obtain ⟨mo, c1, hcase⟩ := h.map
  have HC := Lib.hid hcase
  have HS := Lib.hid hs
  have hq : ∀ W : World, (binOp .eql 133 (.map mo) (.map none)).run Tryd.prog W = .ok (.bool mo.isNone) W := fun W => eql_map mo W
  have hmm := @run_makeMap Tryd.prog
  clear h hs hi hz0 hz1 hz2 hcase
  go_enter Tryd.func66, Tryd.ntmps66
  go_upto_if 12 with fail
  go_cut [] (fun wx => ∃ v M D, VM wx base q o b l v M D ∧ VFr q o w wx S (SM q v M))
  case first =>
    rcases HC.out with ⟨rfl, h1, rfl, rfl⟩ | ⟨v, M, D, rfl, h, rfl⟩
    · have h2 := h1.same (fun j _ => same_cells (((Below.refl w.heap.size w).alloc (Nat.le_refl _) (.map #[] 0)).block q h1.lt) j)
      have c2 := h2.c1
      have c3 := h2.f1
      have HM := Lib.hid (VM.made w h1 hB)
      clear h1 h2 c1 hq
      go_wp2_with fail
      go_meet
      exact ⟨_, _, _, HM.out.1.more (Nat.zero_le _), HM.out.2⟩
    · have H := Lib.hid h
      clear h hq
      go_wp2_with fail
      go_meet
      exact ⟨v, M, D, H.out, VFr.refl _ _⟩
  case rest =>
    obtain ⟨v, M, D, hQ0, hF0⟩ := hcut
    have H := Lib.hid hQ0
    have HF0 := Lib.hid hF0
    have HB0 := Lib.hid (show base ≤ wc.heap.size from Nat.le_trans hB hF0.size)
    have HS2 := Lib.hid (HS.out.kept hF0)
    clear hQ0 hF0 hq HS hB c1
    go_wp2_with fail
    go_loopw [5, 19] (fun c i wr => PutR wc base q o b m l zs v M c i wr) (fun _ i _ => m - (intOf i).toNat)
    case atStart => exact ⟨0, l, v, D, by omega, rfl, rfl, by simp, H.out, VFr.refl _ _⟩
    case round =>
      obtain ⟨k, l', v', D', hk, rfl, hl', rfl, hQ, hF⟩ := hrel
      have HQ := Lib.hid hQ
      have HF := Lib.hid hF
      have HL := Lib.hid hl'
      have hle : l.length ≤ l'.length ∧ l'.length ≤ l.length + k := by
        rw [hl']
        have := putAll_len l (zs.take k)
        have e : (zs.take k).length ≤ k := List.length_take_le _ _
        omega
      obtain ⟨hle1, hle2⟩ := hle
      clear hl' hQ hF
      by_cases hlt : k < m
      · have hkz : k < zs.length := by rw [hm.out]; exact hlt
        obtain ⟨ad, had, hb1, hb2, hc⟩ := (HS2.out.kept HF.out).src (by intro e; rw [e] at hkz; simp at hkz)
        have hcell := hc k hkz
        have hx : wfI (zs.getD k 0) := HS2.out.vals _ (by simp [List.getD, hkz])
        have HX : Hid (zs.take (k + 1) = zs.take k ++ [zs.getD k 0]) := Lib.hid (take_succ' zs k hkz)
        subst had
        generalize zs.getD k 0 = x at hcell hx HX
        have k0 : (0 : Int) ≤ k := by omega
        clear hc hb1 hb2 hkz
        have hx1 := hx.fit.1
        have hx2 := hx.fit.2
        cases hin : l'.contains x
        · have HIn := Lib.hid hin
          have hkey := hx.key
          clear hin
          go_wp2_with (first
            | (go_at_call 64; (with_reducible refine (qhas_m x hx false HIn _ HQ.out).mono ?_); rintro e w1 ⟨rfl, hb⟩; have HQ1 := Lib.hid (HQ.out.below hb); have HF1 := Lib.hid (HF.out.trans (VFr.of_below hb HQ.out.lt _)); have hc1 := HQ1.out.c1; clear hb)
            | (at_mapUpdate; refine wpList_mapUpdate_own _ rfl _ _ _ 133 rfl 3 158 lawI Tryd.underlying133 U1 M (b + k) D' rfl HQ1.out.mp (by unfold maxLen; omega) _ _ _ rfl rfl hkey _ [] unitElem_mk ?_; intro w2 hown1 hgrow1; have HM := Lib.hid hown1; have HG := Lib.hid hgrow1; have hc0 := (World.cell?_of_block (a := ⟨q, o, none⟩) (hgrow1.block q HQ1.out.lt (fun e => HQ1.out.mq (by injection e with e; exact e.symm)))).trans HQ1.out.c0; have HR := Lib.hid (HQ1.out.row.kept hgrow1 (.inr HQ1.out.mv)); have HB2 := Lib.hid (show base ≤ w2.heap.size from Nat.le_trans HB0.out (Nat.le_trans HF1.out.size hgrow1.size)); clear hown1 hgrow1 hc1)
            | (at_builtin; refine wpList_append_own_at _ rfl _ _ 56 rfl base 3 i0 (.int .i64 0) 1 8 Tryd.underlying56 HI.out.1 HI.out.2.1 HI.out.2.2.1 HI.out.2.2.2 rfl (by decide) v' l'.length _ rfl (HR.out.alloc _) ⟨w2.heap.size, 0, none⟩ 1 1 [.int .i64 x] rfl rfl (cell_one_new _ _ _) (ints_oneCell .i64 [x]) (by unfold maxLen; omega) (by omega) (by have := HB2.out; simp; omega) ?_; intro v2 w3 hrow hg3 hnil hloc; obtain ⟨g2, c2, hv2⟩ := owns_slice hrow (by omega); subst hv2; have HP := Lib.hid (HQ1.out.put x hx HIn.out _ HM.out HG.out hrow hg3 hloc); have hmid := HQ1.out.mid3 HG.out hg3; obtain ⟨hc3, hf3⟩ := hmid; clear hrow hg3 hnil hloc hc0))
          go_roundw
          case rel => exact ⟨k + 1, l' ++ [x], _, D'.put (kI x) (.agg []), by omega, by go_num, by rw [HX.out, putAll_snoc, ← HL.out, if_neg (by rw [HIn.out]; simp)], cnt_step _ _ _ (by simp), HP.out.1, HF1.out.trans HP.out.2⟩
          case measure => simp [intOf]; omega
        · have HIn := Lib.hid hin
          clear hin
          go_wp2_with (first
            | (go_at_call 64; (with_reducible refine (qhas_m x hx true HIn _ HQ.out).mono ?_); rintro e w1 ⟨rfl, hb⟩; have HQ1 := Lib.hid (HQ.out.below hb); have HF1 := Lib.hid (HF.out.trans (VFr.of_below hb HQ.out.lt _)); clear hb))
          go_roundw
          case rel => exact ⟨k + 1, l', v', D', by omega, by go_num, by rw [HX.out, putAll_snoc, ← HL.out, if_pos HIn.out], rfl, HQ1.out.more (by omega), HF1.out⟩
          case measure => simp [intOf]; omega
      · obtain rfl : m = k := by omega
        have hdd : decide (m < m) = false := by simp
        have HL2 : Hid (putAll l zs = l') := Lib.hid (by rw [HL.out, List.take_of_length_le (by rw [hm.out]; exact Nat.le_refl _)])
        go_wp2_with fail
        go_ret
        exact ⟨SM q v' M, ret_i64 (by rw [← HL2.out]; exact hr.out), .inr ⟨v', M, D', by rw [HL2.out]; exact HQ.out, rfl⟩, HF0.out.trans HF.out⟩
end Go.Proofs.YtahhnfhnlffmpaaDoor.V
