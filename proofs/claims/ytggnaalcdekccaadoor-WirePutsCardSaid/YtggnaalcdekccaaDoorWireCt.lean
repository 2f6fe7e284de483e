import Derived.Test.YtggnaalcdekccaaDoorWireRg
import Derived.Test.YtggnaalcdekccaaDoorWireW
namespace Go.Proofs.YtggnaalcdekccaaDoor
open Go.ChangeShapes Go.WideShapes Go.ChangeAt Go.RowKit
set_option linter.unusedVariables false
theorem SrcL.below {B : Nat} {w w' : World} {a : Option Addr} {ns : List Int} (h : SrcL w a ns) (hb : Below B w w') (hl : ∀ ad, a = some ad → 0 < ns.length → ad.block < B) : SrcL w' a ns := by
  refine ⟨h.1, h.2.1, fun ad had i hi => ?_⟩
  have h1 := h.2.2 ad had i hi
  refine ⟨?_, h1.2⟩
  rw [hb.cell (p := ad.add i) (by unfold Addr.add; split <;> exact hl ad had (by omega))]
  exact h1.1
theorem SrcL.take {w : World} {a : Option Addr} {ns : List Int} (h : SrcL w a ns) (k : Nat) (hk : k ≤ ns.length) : SrcL w a (ns.take k) := by
  refine ⟨fun n hn => h.1 n (List.mem_of_mem_take hn), fun h0 => by rw [h.2.1 h0]; simp, fun ad had i hi => ?_⟩
  have hik : i < k := by simp at hi; omega
  have := h.2.2 ad had i (by omega)
  rwa [show (ns.take k).getD i 0 = ns.getD i 0 by simp [List.getD, hik]]
theorem SrcB.take {w : World} {a : Option Addr} {bs : List Nat} (h : SrcB w a bs) (k : Nat) (hk : k ≤ bs.length) : SrcB w a (bs.take k) := by
  refine ⟨fun n hn => h.1 n (List.mem_of_mem_take hn), fun h0 => by rw [h.2.1 h0]; simp, fun ad had i hi => ?_⟩
  have hik : i < k := by simp at hi; omega
  have := h.2.2 ad had i (by omega)
  rwa [show (bs.take k).getD i 0 = bs.getD i 0 by simp [List.getD, hik]]
/-- Where number j of a row begins. -/
def plc (ns : List Int) (j : Nat) : Nat := (encs (ns.take j)).length
theorem plc_zero (ns : List Int) : plc ns 0 = 0 := by simp [plc, encs]
theorem plc_all (ns : List Int) (j : Nat) (h : ns.length ≤ j) : plc ns j = (encs ns).length := by unfold plc; rw [List.take_of_length_le h]
theorem plc_succ (ns : List Int) (j : Nat) (h : j < ns.length) : plc ns (j + 1) = plc ns j + (enc (zig (ns.getD j 0))).length := by unfold plc; rw [encs_snoc ns j h, List.length_append]
theorem encs_split (ns : List Int) (j : Nat) (h : j < ns.length) : encs ns = encs (ns.take j) ++ (enc (zig (ns.getD j 0)) ++ encs (ns.drop (j + 1))) := by
  have e : ns = ns.take j ++ (ns.getD j 0 :: ns.drop (j + 1)) := by
    rw [show ns.getD j 0 = ns[j] by simp [List.getD, h], ← List.drop_eq_getElem_cons h, List.take_append_drop]
  conv => lhs; rw [e]
  simp [encs]
theorem plc_le (ns : List Int) (j : Nat) (h : j < ns.length) : plc ns (j + 1) ≤ (encs ns).length := by
  rw [plc_succ ns j h, encs_split ns j h]; simp [plc]
theorem rest_at (ns : List Int) (j k : Nat) (h : j < ns.length) (hk : plc ns j ≤ k) : ((encs ns).take k).drop (plc ns j) = (enc (zig (ns.getD j 0)) ++ encs (ns.drop (j + 1))).take (k - plc ns j) := by
  rw [List.drop_take]
  congr 1
  rw [encs_split ns j h]
  exact List.drop_left' rfl
theorem cut_ok (ns : List Int) (j k : Nat) (h : j < ns.length) (hk : plc ns (j + 1) ≤ k) (h1 : -9223372036854775808 ≤ ns.getD j 0) (h2 : ns.getD j 0 ≤ 9223372036854775807) :
    pars 0 0 (((encs ns).take k).drop (plc ns j)) = (zig (ns.getD j 0), (enc (zig (ns.getD j 0))).length, 0) := by
  have e := plc_succ ns j h
  rw [rest_at ns j k h (by omega), List.take_append, List.take_of_length_le (by omega)]
  have := pars_enc (zig (ns.getD j 0)) (zig (ns.getD j 0)) 0 0 ((encs (ns.drop (j + 1))).take (k - plc ns j - (enc (zig (ns.getD j 0))).length)) (Nat.le_refl _) (fun h => by omega) (by simpa using zig_lt h1 h2)
  simpa using this
theorem cut_bad (ns : List Int) (j k : Nat) (h : j < ns.length) (hk0 : plc ns j ≤ k) (hk : k < plc ns (j + 1)) (h1 : -9223372036854775808 ≤ ns.getD j 0) (h2 : ns.getD j 0 ≤ 9223372036854775807) :
    pars 0 0 (((encs ns).take k).drop (plc ns j)) = (0, 0, 1) := by
  have e := plc_succ ns j h
  rw [rest_at ns j k h hk0, List.take_append_of_le_length (by omega)]
  exact pars_cut (zig (ns.getD j 0)) (zig (ns.getD j 0)) 0 0 (k - plc ns j) (Nat.le_refl _) (fun h => by omega) (by simpa using zig_lt h1 h2) (by omega)
theorem nr_len (a : Option Addr) (cap n : Nat) (bs : List Nat) (w : World) (hn : n = bs.length) (hl : bs.length ≤ 1000000) (hx : ∀ x ∈ bs, x < 256) (hsrc : 0 < bs.length → ∃ ad, a = some ad ∧ BytesAt w ad bs) :
    Calls Tryd.prog 17 #[.slice a n cap] w fun e w' => ∃ p g, e = .returned (.pointer (some ⟨p, 0, none⟩)) ∧ Rd w' p g 0 bs .nilIface ∧ w.heap.size ≤ p ∧ w.heap.size ≤ g ∧ Below w.heap.size w w' := by
  subst hn
  exact newreader_any a cap bs w hl hx hsrc
theorem plc_lt (ns : List Int) (j : Nat) (h : j < ns.length) : plc ns j < plc ns (j + 1) := by
  rw [plc_succ ns j h]
  have := List.length_pos_iff.2 (enc_ne (zig (ns.getD j 0)))
  omega
theorem enc_zig10 (n : Int) (h1 : -9223372036854775808 ≤ n) (h2 : n ≤ 9223372036854775807) : (enc (zig n)).length ≤ 10 := by
  have := encs_len [n] (by simp; exact ⟨h1, h2⟩)
  simpa [encs] using this
theorem put_plc (la : Option Addr) (cap lcap j : Nat) (ns : List Int) (w : World) (hj : j ≤ ns.length) (hn : ns.length ≤ 1000) (hs : SrcL w la ns) :
    Calls Tryd.prog 15 #[.slice none 0 cap, .slice la j lcap] w fun e w' => ∃ a c, e = .returned (.slice a (plc ns j) c) ∧ Below w.heap.size w w' :=
  (put_nil_out la cap lcap j (ns.take j) w (by simp; omega) (by simp; omega) (hs.take j hj)).mono fun e w' ⟨a, c, he, _, _, _, _, hb⟩ => ⟨a, c, he, hb⟩
theorem cut_num_ok {w : World} {p g : Nat} (ns : List Int) (j k : Nat) (h : Rd w p g (plc ns j) ((encs ns).take k) .nilIface) (hj : j < ns.length) (hk : plc ns (j + 1) ≤ k) (hkl : k ≤ (encs ns).length) (hle : (encs ns).length ≤ 200) (hr : ∀ n ∈ ns, -9223372036854775808 ≤ n ∧ n ≤ 9223372036854775807) :
    Calls Tryd.prog 18 #[.pointer (some ⟨p, 0, none⟩), .int .i64 (-9223372036854775808), .int .i64 9223372036854775807] w fun e w' => e = .returned (.int .i64 (ns.getD j 0)) ∧ Rd w' p g (plc ns (j + 1)) ((encs ns).take k) .nilIface ∧ w.grownBy w' (some p) := by
  have hm : ns.getD j 0 ∈ ns := by rw [show ns.getD j 0 = ns[j] by simp [List.getD, hj]]; exact List.getElem_mem _
  have h1 := (hr _ hm).1
  have h2 := (hr _ hm).2
  have hlt := plc_lt ns j hj
  have := rd_num_ok h (by simp; omega) (by simp; omega) (zig (ns.getD j 0)) (enc (zig (ns.getD j 0))).length (cut_ok ns j k hj hk h1 h2) _ _ (ns.getD j 0) (zag_zig _) h1 h2 (zig_lt h1 h2) (enc_zig10 _ h1 h2)
  rwa [← plc_succ ns j hj] at this
theorem cut_num_bad {w : World} {p g : Nat} (ns : List Int) (j k : Nat) (h : Rd w p g (plc ns j) ((encs ns).take k) .nilIface) (hj : j < ns.length) (hk0 : plc ns j ≤ k) (hk : k < plc ns (j + 1)) (hkl : k ≤ (encs ns).length) (hle : (encs ns).length ≤ 200) (hr : ∀ n ∈ ns, -9223372036854775808 ≤ n ∧ n ≤ 9223372036854775807) (A : Nat → Addr) (hA : Sen A w) :
    Calls Tryd.prog 18 #[.pointer (some ⟨p, 0, none⟩), .int .i64 (-9223372036854775808), .int .i64 9223372036854775807] w fun e w' => e = .returned (.int .i64 0) ∧ Told w' p g (plc ns j) ((encs ns).take k) (sA A 0) ∧ w.grownBy w' (some p) := by
  have hm : ns.getD j 0 ∈ ns := by rw [show ns.getD j 0 = ns[j] by simp [List.getD, hj]]; exact List.getElem_mem _
  exact rd_num_bad h (by simp; omega) (by simp; omega) (c := 1) (.inl ⟨rfl, rfl⟩) (cut_bad ns j k hj hk0 hk (hr _ hm).1 (hr _ hm).2) _ _ (sA A 0) (hA.cell 0 (by decide)).1
end Go.Proofs.YtggnaalcdekccaaDoor
