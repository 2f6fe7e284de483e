/-
  package arena: Copy.
-/
import Derived.Test.YtkhgnmgcdgjncaaDoorArL
namespace Go.Proofs.YtkhgnmgcdgjncaaDoor
open Go.ChangeShapes Go.WideShapes Go.ChangeAt Go.RowKit
set_option linter.unusedVariables false
theorem plc_cells (th : Nat → Bool) (vr : Nat → Int) (n : Nat) : ∀ u ∈ plc th vr n, u.oneCell' = true := by
  induction n with
  | zero => intro u hu; simp [plc] at hu
  | succ n ih =>
    intro u hu
    rcases List.mem_append.1 hu with h | h
    · exact ih u h
    · simp at h
      rcases h with rfl | rfl <;> rfl
set_option maxRecDepth 100000 in
theorem aclone_is {base p B n c : Nat} {th : Nat → Bool} {vr : Nat → Int} (w : World) (hA : ArAt w base p B n c th vr) :
    Calls Tryd.prog 102 #[.slice (some ⟨B, 0, none⟩) n c] w fun e w' => ∃ v, e = .returned v ∧ w'.ownsRow w.heap.size 128 2 v n (plc th vr n) ∧ Below w.heap.size w w' := by
  obtain ⟨i0, hi, hz0, hz1, hz2⟩ := info_parts infoPlace
  have HI := Lib.hid (⟨hi, hz0, hz1, hz2⟩ : Tryd.prog.info? 128 = some i0 ∧ i0.zero = some (.agg #[.bool false, .int .i64 0]) ∧ i0.size = 2 ∧ i0.bytes = 16)
  clear hi hz0 hz1 hz2
  have HA := Lib.hid hA
  have hn := hA.le
  clear hA
  have hq := fun W : World => Lib.run_eql_slice_nil W 129 128 (some ⟨B, 0, none⟩) n c 0 0 Tryd.underlying129
  go_enter Tryd.func102, Tryd.ntmps102
  have HOwn : Hid ((w.alloc (.cells #[] 128)).ownsRow w.heap.size 128 2 (.slice (some ⟨w.heap.size, 0, none⟩) 0 0) 0 []) := Lib.hid ⟨rfl, .inr ⟨w.heap.size, 0, #[], rfl, Nat.le_refl _, heap_alloc_new _ _, by decide, by decide, by rfl, by rfl⟩⟩
  have HA1 := Lib.hid (HA.out.below ((Below.refl _ _).alloc (Nat.le_refl _) _ : Below w.heap.size w (w.alloc (.cells #[] 128))))
  go_wp2_with (first | (at_builtin; refine wpList_append_own _ rfl _ _ 129 rfl w.heap.size 128 i0 (.agg #[.bool false, .int .i64 0]) 2 16 Tryd.underlying129 HI.out.1 HI.out.2.1 HI.out.2.2.1 HI.out.2.2.2 rfl (by decide) _ _ _ rfl HOwn.out ⟨B, 0, none⟩ n c (plc th vr n) rfl ?c0 ?c1 ?c2 ?c3 ?c4 ?c5 ?_))
  case c0 => exact plc_len th vr n
  case c1 => exact HA1.out.own.cells rfl
  case c2 => exact plc_cells th vr n
  case c3 => unfold maxLen; omega
  case c4 => omega
  case c5 => simp
  intro v' w1 hown hgrow hne
  have HO : Hid (w1.ownsRow w.heap.size 128 2 v' n (plc th vr n)) := Lib.hid hown
  have HB : Hid (Below w.heap.size w w1) := Lib.hid (((Below.refl _ _).alloc (Nat.le_refl _) _ : Below w.heap.size w (w.alloc (.cells #[] 128))).grown hgrow (by simp) (fun k hk => by simp [Value.ownBlock] at hk; omega))
  clear hown hgrow hne
  go_wp2_with fail
  go_ret
  exact ⟨_, rfl, HO.out, HB.out⟩
theorem aclone_sl {base p B n c : Nat} {th : Nat → Bool} {vr : Nat → Int} (hn1 : 1 ≤ n) (w : World) (hA : ArAt w base p B n c th vr) :
    Calls Tryd.prog 102 #[.slice (some ⟨B, 0, none⟩) n c] w fun e w' => ∃ g c', e = .returned (.slice (some ⟨g, 0, none⟩) n c') ∧ w'.ownsRow w.heap.size 128 2 (.slice (some ⟨g, 0, none⟩) n c') n (plc th vr n) ∧ Below w.heap.size w w' := by
  refine (aclone_is w hA).mono fun e w' ⟨v, he, hown, hb⟩ => ?_
  rcases hown.2 with ⟨rfl, h0, _⟩ | ⟨g, cap, cur, rfl, hB, hg, rest⟩
  · omega
  · exact ⟨g, cap, he, hown, hb⟩
set_option maxRecDepth 100000 in
theorem acopy_is {base p B n c : Nat} {th : Nat → Bool} {vr : Nat → Int} (hn1 : 1 ≤ n) (w : World) (hA : ArAt w base p B n c th vr) :
    Calls Tryd.prog 84 #[.pointer (some ⟨p, 0, none⟩)] w fun e w' => ∃ p' B' c', e = .returned (.pointer (some ⟨p', 0, none⟩)) ∧ ArAt w' w.heap.size p' B' n c' th vr ∧ Below w.heap.size w w' := by
  have HA := Lib.hid hA
  have hf := hA.fld
  have hn := hA.le
  clear hA
  go_enter Tryd.func84, Tryd.ntmps84
  go_wp2_with (first | (go_at_call 102; refine (aclone_sl hn1 _ HA.out).mono ?_; rintro e w1 ⟨g, c', rfl, hown, hb⟩; have HO := Lib.hid hown; have HB := Lib.hid hb; clear hown hb))
  go_ret
  have hlt := (HO.out.lt g rfl).2
  exact ⟨_, g, c', rfl, ⟨by simp, HB.out.size, by simp, HO.out.alloc _, by omega, hn⟩, HB.out.alloc HB.out.size _⟩
end Go.Proofs.YtkhgnmgcdgjncaaDoor
