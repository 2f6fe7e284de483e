/-
  package asm: gather.
-/
import Derived.Test.YtaekccgcnlepaaaGreatDoorLb
import Derived.Test.YtaekccgcnlepaaaGreatDoorAl
namespace Go.Proofs.YtaekccgcnlepaaaGreatDoor
open Go.ChangeShapes Go.WideShapes Go.ChangeAt Go.RowKit Go.Maps
set_option linter.unusedVariables false
set_option linter.unusedSimpArgs false
abbrev LF := List UInt8 → Option (Int × Int)
/-- One line of gather: the place that comes next, the names. -/
def gaStep (line : Nat) (st : Nat × LF) (s : ByteArray) : Nat × LF :=
  if silentL (tokB s) = true then st else match nmIn (tokB s) with
    | none => (st.1 + 1, st.2)
    | some nm => if (st.2 nm).isSome = true then st else (st.1, labU st.2 nm (line : Int) (st.1 : Int))
def gaAll : Nat → Nat × LF → List ByteArray → Nat × LF
  | _, st, [] => st
  | line, st, s :: r => gaAll (line + 1) (gaStep line st s) r
theorem gaAll_snoc (l : List ByteArray) : ∀ (line : Nat) (st : Nat × LF) (s : ByteArray), gaAll line st (l ++ [s]) = gaStep (line + l.length) (gaAll line st l) s := by
  induction l with
  | nil => intro line st s; rfl
  | cons x l ih =>
    intro line st s
    show gaAll (line + 1) (gaStep line st x) (l ++ [s]) = _
    rw [ih]
    show gaStep (line + 1 + l.length) _ s = gaStep (line + (l.length + 1)) _ s
    rw [show line + 1 + l.length = line + (l.length + 1) by omega]
    rfl
/-- Lines in a row. -/
def LsAt (w : World) (a : Option Addr) (ls : List ByteArray) : Prop := ∀ i, i < ls.length → ∃ ad, a = some ad ∧ ad.block < w.heap.size ∧ w.cell? (ad.add i) = some (.string (ls.getD i ⟨#[]⟩))
theorem add_blockL (ad : Addr) (n : Nat) : (ad.add n).block = ad.block := by unfold Addr.add; split <;> rfl
theorem LsAt.below {w w' : World} {a : Option Addr} {ls : List ByteArray} (h : LsAt w a ls) (hb : Below w.heap.size w w') : LsAt w' a ls := fun i hi => by
  obtain ⟨ad, h1, h2, h3⟩ := h i hi
  exact ⟨ad, h1, Nat.lt_of_lt_of_le h2 hb.size, (hb.cell (p := ad.add i) (by rw [add_blockL]; exact h2)).trans h3⟩
theorem gaStep_le (line : Nat) (st : Nat × LF) (s : ByteArray) : (gaStep line st s).1 ≤ st.1 + 1 := by
  unfold gaStep
  split
  · omega
  · split
    · exact Nat.le_refl _
    · split <;> simp
theorem nmIn_size (ws : List ByteArray) (nm : List UInt8) (h : nmIn ws = some nm) (hz : ∀ x, x ∈ ws → x.size ≤ 100000) : nm.length ≤ 100000 := by
  match ws, h, hz with
  | [x], h, hz =>
    unfold nmIn at h
    simp only at h
    split at h
    · injection h with h
      rw [← h]
      have := hz x (by simp)
      rw [← ba_len] at this
      unfold Lib.trimSuffix
      split
      · exact Nat.le_trans (List.length_take_le _ _) (by omega)
      · exact this
    · cases h
  | [], h, _ => cases h
  | _ :: _ :: _, h, _ => cases h
set_option maxRecDepth 100000 in
set_option maxHeartbeats 4000000 in
theorem gather_is (a : Option Addr) (c m : Nat) (ls : List ByteArray) (hm : Hid (ls.length = m)) (hm1 : m ≤ 1000) (hsz : Hid (∀ i, (ls.getD i ⟨#[]⟩).size ≤ 900)) (w : World) (hL : LsAt w a ls) :
    Calls Tryz.prog 12 #[.slice a m c] w fun e w' => ∃ M b, e = .returned (.map (some M)) ∧ LabAt w' M b (gaAll 0 (0, fun _ => none) ls).2 ∧ w.heap.size ≤ M ∧ Below w.heap.size w w' := by
  have HL := Lib.hid hL
  have hmm := @run_makeMap Tryz.prog
  have HM0 := Lib.hid (LabAt.made w)
  clear hL
  go_enter Tryz.func12, Tryz.ntmps12
  go_wp2_with fail
  obtain ⟨M, hM⟩ : ∃ M, M = w.heap.size := ⟨_, rfl⟩
  have HMl : Hid (w.heap.size ≤ M) := Lib.hid (by omega)
  rw [← hM] at HM0 ⊢
  clear hM
  go_loopw [4, 15] (fun p i wr => ∃ (k q : Nat) (f : LF) (b : Nat), k ≤ m ∧ i = .int .i64 k ∧ p = .int .i64 q ∧ gaAll 0 (0, fun _ => none) (ls.take k) = (q, f) ∧ q ≤ k ∧ b ≤ k ∧ LabAt wr M b f ∧ Below w.heap.size w wr) (fun _ i _ => m - (intOf i).toNat)
  case atStart => exact ⟨0, 0, _, 0, by omega, rfl, rfl, rfl, by omega, by omega, HM0.out, (Below.refl _ _).alloc (Nat.le_refl _) _⟩
  case round =>
    obtain ⟨k, q, f, b, hk, rfl, rfl, hg, hqk, hbk, hlab, hbel⟩ := hrel
    have HLab := Lib.hid hlab
    have HB := Lib.hid hbel
    have HG := Lib.hid hg
    by_cases hlt : k < m
    · have hkl : k < ls.length := by rw [hm.out]; exact hlt
      obtain ⟨ad, rfl, h1, cl⟩ := (HL.out.below hbel) k hkl
      obtain ⟨s, hs⟩ : ∃ s, ls.getD k ⟨#[]⟩ = s := ⟨_, rfl⟩
      have hs9 : s.size ≤ 900 := by rw [← hs]; exact hsz.out k
      have HT : Hid (ls.take (k + 1) = ls.take k ++ [s]) := Lib.hid (by
        rw [List.take_succ_eq_append_getElem hkl, ← hs]
        simp [List.getD, hkl])
      rw [hs] at cl
      have HGS : Hid (gaAll 0 (0, fun _ => none) (ls.take (k + 1)) = gaStep k (q, f) s) := Lib.hid (by
        rw [HT.out, gaAll_snoc, HG.out, List.length_take, Nat.min_eq_left (by omega), Nat.zero_add])
      obtain ⟨n, HN⟩ : ∃ n, Hid ((tokB s).length = n) := ⟨_, Lib.hid rfl⟩
      have hn1 : n ≤ 1000 := by rw [← HN.out]; exact Nat.le_trans (tok_count s) (by omega)
      have HTS : Hid (∀ x, x ∈ tokB s → x.size ≤ 100000) := Lib.hid (fun x hx => by
        obtain ⟨i, hi, e⟩ := List.mem_iff_getElem.1 hx
        have := tok_size s i
        simp [List.getD, hi, e] at this
        omega)
      have k0 : (0 : Int) ≤ (k : Int) := by omega
      have k1 : (k : Int) < (m : Int) := by omega
      clear hlab hbel hg hs hkl h1
      cases hsl : silentL (tokB s)
      · have HSl := Lib.hid hsl
        cases hnm : nmIn (tokB s) with
        | none =>
          have HG2 : Hid (gaStep k (q, f) s = (q + 1, f)) := Lib.hid (by
            unfold gaStep
            rw [hsl, if_neg (by simp), hnm])
          have HNi : Hid (NmR (tokB s) ⟨#[]⟩ false) := Lib.hid (.inr ⟨hnm, rfl, rfl⟩)
          clear hsl hnm
          go_wp2_with (first
            | (go_at_call 14; (with_reducible refine (words_is s (by omega) n HN _).mono ?_); rintro e w1 ⟨B, rfl, hw, hBB, hb⟩; have HW := Lib.hid hw; have HB1 := Lib.hid (HB.out.trans (hb.mono HB.out.size)); have HLab1 := Lib.hid (HLab.out.below hb); clear hw hBB hb)
            | (go_at_call 28; (with_reducible refine (silent_is B n n (tokB s) HN (by omega) false HSl _ HW.out).mono ?_); rintro e w2 ⟨rfl, rfl⟩)
            | (go_at_call 29; (with_reducible refine (namein_is B n n (tokB s) HN (by omega) HTS ⟨#[]⟩ false HNi _ HW.out).mono ?_); rintro e w3 ⟨rfl, hb⟩; have HB3 := Lib.hid (HB1.out.trans (hb.mono HB1.out.size)); have HLab3 := Lib.hid (HLab1.out.below hb); clear hb))
          go_roundw
          case rel => exact ⟨k + 1, q + 1, f, b, by omega, by go_num, by go_num, by rw [HGS.out, HG2.out], by omega, by omega, HLab3.out, HB3.out⟩
          case measure => simp [intOf]; omega
        | some nml =>
          obtain ⟨nm, hnb⟩ : ∃ nm : ByteArray, nm = ⟨nml.toArray⟩ := ⟨_, rfl⟩
          have hnl : nm.data.toList = nml := by rw [hnb]
          have HNi : Hid (NmR (tokB s) nm true) := Lib.hid (.inl ⟨by rw [hnm, hnl], rfl⟩)
          have hnz : nm.size ≤ 1000000 := by
            rw [← ba_len, hnl]
            have := nmIn_size (tokB s) nml hnm HTS.out
            omega
          cases hf : f nml with
          | some xy =>
            have HG2 : Hid (gaStep k (q, f) s = (q, f)) := Lib.hid (by
              unfold gaStep
              rw [hsl, if_neg (by simp), hnm]
              simp only [hf]
              rfl)
            obtain ⟨px, py⟩ := xy
            have HF : Hid (((f nm.data.toList).getD (0, 0)) = (px, py) ∧ (f nm.data.toList).isSome = true) := Lib.hid (by rw [hnl, hf]; exact ⟨rfl, rfl⟩)
            clear hsl hnm hf hnb hnl
            go_wp2_with (first
              | (go_at_call 14; (with_reducible refine (words_is s (by omega) n HN _).mono ?_); rintro e w1 ⟨B, rfl, hw, hBB, hb⟩; have HW := Lib.hid hw; have HB1 := Lib.hid (HB.out.trans (hb.mono HB.out.size)); have HLab1 := Lib.hid (HLab.out.below hb); clear hw hBB hb)
              | (go_at_call 28; (with_reducible refine (silent_is B n n (tokB s) HN (by omega) false HSl _ HW.out).mono ?_); rintro e w2 ⟨rfl, rfl⟩)
              | (go_at_call 29; (with_reducible refine (namein_is B n n (tokB s) HN (by omega) HTS nm true HNi _ HW.out).mono ?_); rintro e w3 ⟨rfl, hb⟩; have HB3 := Lib.hid (HB1.out.trans (hb.mono HB1.out.size)); have HLab3 := Lib.hid (HLab1.out.below hb); clear hb)
              | (at_lookup; refine wpList_lookup_lab _ rfl _ _ rfl rfl HLab3.out nm hnz rfl px py true HF ?_))
            go_roundw
            case rel => exact ⟨k + 1, q, f, b, by omega, by go_num, rfl, by rw [HGS.out, HG2.out], by omega, by omega, HLab3.out.below ((Below.refl _ _).alloc (Nat.le_refl _) _), HB3.out.alloc HB3.out.size _⟩
            case measure => simp [intOf]; omega
          | none =>
            have HG2 : Hid (gaStep k (q, f) s = (q, labU f nm.data.toList (k : Int) (q : Int))) := Lib.hid (by
              unfold gaStep
              rw [hsl, if_neg (by simp), hnm]
              simp only [hf, hnl]
              rfl)
            have HF : Hid (((f nm.data.toList).getD (0, 0)) = (0, 0) ∧ (f nm.data.toList).isSome = false) := Lib.hid (by rw [hnl, hf]; exact ⟨rfl, rfl⟩)
            clear hsl hnm hf hnb hnl
            go_wp2_with (first
              | (go_at_call 14; (with_reducible refine (words_is s (by omega) n HN _).mono ?_); rintro e w1 ⟨B, rfl, hw, hBB, hb⟩; have HW := Lib.hid hw; have HB1 := Lib.hid (HB.out.trans (hb.mono HB.out.size)); have HLab1 := Lib.hid (HLab.out.below hb); clear hw hBB hb)
              | (go_at_call 28; (with_reducible refine (silent_is B n n (tokB s) HN (by omega) false HSl _ HW.out).mono ?_); rintro e w2 ⟨rfl, rfl⟩)
              | (go_at_call 29; (with_reducible refine (namein_is B n n (tokB s) HN (by omega) HTS nm true HNi _ HW.out).mono ?_); rintro e w3 ⟨rfl, hb⟩; have HB3 := Lib.hid (HB1.out.trans (hb.mono HB1.out.size)); have HLab3 := Lib.hid (HLab1.out.below hb); clear hb)
              | (at_lookup; refine wpList_lookup_lab _ rfl _ _ rfl rfl HLab3.out nm hnz rfl 0 0 false HF ?_)
              | (at_mapUpdate; refine wpList_put_lab _ rfl _ _ _ rfl rfl (HLab3.out.below ((Below.refl _ _).alloc (Nat.le_refl _) _)) (by omega) nm hnz rfl (k : Int) (q : Int) rfl ?_; intro w4 hl4 hg4; have HLab4 := Lib.hid hl4; have HB4 := Lib.hid ((HB3.out.alloc HB3.out.size _).grown hg4 (HB3.out.alloc HB3.out.size _).size (fun g hg => by injection hg with hg; have := HMl.out; omega)); clear hl4 hg4))
            go_roundw
            case rel => exact ⟨k + 1, q, _, b + 1, by omega, by go_num, rfl, by rw [HGS.out, HG2.out], by omega, by omega, HLab4.out, HB4.out⟩
            case measure => simp [intOf]; omega
      · have HSl := Lib.hid hsl
        have HG2 : Hid (gaStep k (q, f) s = (q, f)) := Lib.hid (by
          unfold gaStep
          rw [hsl, if_pos rfl])
        clear hsl
        go_wp2_with (first
          | (go_at_call 14; (with_reducible refine (words_is s (by omega) n HN _).mono ?_); rintro e w1 ⟨B, rfl, hw, hBB, hb⟩; have HW := Lib.hid hw; have HB1 := Lib.hid (HB.out.trans (hb.mono HB.out.size)); have HLab1 := Lib.hid (HLab.out.below hb); clear hw hBB hb)
          | (go_at_call 28; (with_reducible refine (silent_is B n n (tokB s) HN (by omega) true HSl _ HW.out).mono ?_); rintro e w2 ⟨rfl, rfl⟩))
        go_roundw
        case rel => exact ⟨k + 1, q, f, b, by omega, by go_num, rfl, by rw [HGS.out, HG2.out], by omega, by omega, HLab1.out, HB1.out⟩
        case measure => simp [intOf]; omega
    · obtain rfl : m = k := by omega
      have hdd : decide (m < m) = false := by simp
      have hg2 := HG.out
      rw [List.take_of_length_le (by rw [hm.out]; exact Nat.le_refl _)] at hg2
      have HG3 := Lib.hid hg2
      clear hlab hbel hg hg2
      go_wp2_with fail
      go_ret
      exact ⟨M, b, rfl, by rw [HG3.out]; exact HLab.out, HMl.out, HB.out⟩
end Go.Proofs.YtaekccgcnlepaaaGreatDoor
