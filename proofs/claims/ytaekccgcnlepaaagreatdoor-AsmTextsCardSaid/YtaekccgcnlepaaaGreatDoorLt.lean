/-
  package asm: Text.
-/
import Derived.Test.YtaekccgcnlepaaaGreatDoorLw
import Derived.Maps.AppendAt
namespace Go.Proofs.YtaekccgcnlepaaaGreatDoor
open Go.ChangeShapes Go.WideShapes Go.ChangeAt Go.RowKit Go.Maps
set_option linter.unusedVariables false
set_option linter.unusedSimpArgs false
/-- The lines' words, or the first error with its line. -/
def txRun (f : LF) : Nat → List ByteArray → List Int → List Int × Option (Nat × Nat)
  | _, [], acc => (acc, none)
  | line, s :: r, acc => match wdV f line (tokB s) with
    | (_, some e) => ([], some (line, e))
    | ((v, t), none) => txRun f (line + 1) r (if t = true then acc ++ [v] else acc)
def textV (ls : List ByteArray) : List Int × Option (Nat × Nat) := txRun (gaAll 0 (0, fun _ => none) ls).2 0 ls []
def u32 (x : Int) : Value := .int .u32 x
theorem infoU32 : (Tryz.prog.info? 38).map (fun i => (i.zero, i.size, i.bytes)) = some (some (.int .u32 0), 1, 4) := by kernel_rfl
/-- What Text answers. -/
def TxOut (A : Nat → Addr) (w w' : World) (x : List Int × Option (Nat × Nat)) (e : Ending) : Prop :=
  ∃ ad n cp ve, e = .returned (.tuple #[.slice ad n cp, ve]) ∧ x.1.length = n ∧ w'.ownsRow w.heap.size 38 1 (.slice ad n cp) n (x.1.map u32) ∧ ((x.2 = none ∧ ve = .nilIface) ∨ ∃ k er p, x.2 = some (k, er) ∧ er < 12 ∧ ve = (Value.iface 46 (.pointer (some ⟨p, 0, none⟩))) ∧ (Sen A w' → FaultIs ve (101 + (er : Int)) (k : Int) true w'))
theorem owns_shp {w : World} {B E s n : Nat} {v : Value} {xs : List Value} (h : w.ownsRow B E s v n xs) : ∃ a c, v = .slice a n c := by
  rcases h.2 with ⟨rfl, rfl⟩ | ⟨g, cap, cur, rfl, _⟩
  · exact ⟨none, 0, rfl⟩
  · exact ⟨_, cap, rfl⟩
theorem dec_er {l : List UInt8} {n : Int} {e : Nat} (h : decS2 l = (n, some e)) : e < 12 := by
  unfold decS2 at h
  cases hq : numL l with
  | none => rw [hq] at h; simp only [Prod.mk.injEq, Option.some.injEq] at h; omega
  | some m => rw [hq] at h; simp at h
theorem nm_er {tb : List (List UInt8)} {l : List UInt8} {n : Int} {e : Nat} (h : nmS tb l = (n, some e)) : e < 12 := by
  unfold nmS at h
  cases hq : idxL tb l with
  | none => rw [hq] at h; simp only [Prod.mk.injEq, Option.some.injEq] at h; omega
  | some m => rw [hq] at h; simp at h
theorem pl_er {f : LF} {l : List UInt8} {n : Int} {e : Nat} (h : plS f l = (n, some e)) : e < 12 := by
  unfold plS at h
  cases hq : f l with
  | none => rw [hq] at h; simp only [Prod.mk.injEq, Option.some.injEq] at h; omega
  | some m => rw [hq] at h; simp at h
theorem valN_er {f : LF} {op : Nat} {k : UInt8} {l : List UInt8} {e : Nat} (h : (valN f op k l).2 = some e) : e < 12 := by
  unfold valN valK numS regS at h
  split at h
  · split at h
    · exact pl_er (n := (plS f l).1) (Prod.ext rfl h)
    · exact dec_er (n := (decS2 l).1) (Prod.ext rfl h)
  · split at h
    · exact dec_er (n := (decS2 l).1) (Prod.ext rfl h)
    · split at h
      · exact nm_er (n := (nmS wNm l).1) (Prod.ext rfl h)
      · split at h
        · exact nm_er (n := (nmS mNm l).1) (Prod.ext rfl h)
        · split at h
          · exact dec_er (n := (decS2 (Lib.trimPrefix l [k])).1) (Prod.ext rfl h)
          · simp only [Option.some.injEq] at h; omega
theorem runV_er (vv : Nat → Int × Option Nat) (h : ∀ j e, (vv j).2 = some e → e < 12) : ∀ (ks : List UInt8) (j : Nat) (st : List Int × Int) (e : Nat), (runV vv ks j st).2 = some e → e < 12 := by
  intro ks
  induction ks with
  | nil => intro j st e he; cases he
  | cons k ks ih =>
    intro j st e he
    rw [runV] at he
    cases hv : (vv j).2 with
    | some e2 =>
      rw [hv] at he
      simp only [Option.some.injEq] at he
      exact he ▸ h j e2 hv
    | none =>
      rw [hv] at he
      exact ih _ _ _ he
theorem wdV_er {f : LF} {line : Nat} {ws : List ByteArray} {y : Int × Bool} {e : Nat} (h : wdV f line ws = (y, some e)) : e < 12 := by
  unfold wdV at h
  split at h
  · simp at h
  · split at h
    · split at h
      · simp at h
      · simp only [Prod.mk.injEq, Option.some.injEq] at h; omega
    · split at h
      · simp only [Prod.mk.injEq] at h
        exact dec_er (n := (decS2 (ws.getD 1 ⟨#[]⟩).data.toList).1) (Prod.ext rfl h.2)
      · split at h
        · rename_i a e2 hp
          simp only [Prod.mk.injEq, Option.some.injEq] at h
          obtain ⟨_, rfl⟩ := h
          unfold parN parseV at hp
          split at hp
          · simp only [Prod.mk.injEq, Option.some.injEq] at hp; omega
          · unfold insV at hp
            split at hp
            · rename_i e3 hr
              simp only [Prod.mk.injEq, Option.some.injEq] at hp
              obtain ⟨_, rfl⟩ := hp
              exact runV_er _ (fun j e he => valN_er he) _ _ _ _ hr
            · split at hp
              · simp at hp
              · simp only [Prod.mk.injEq, Option.some.injEq] at hp; omega
        · simp at h
theorem own_bs {w : World} {B B' E s n : Nat} {v : Value} {xs : List Value} (h : w.ownsRow B E s v n xs) (hb : B' ≤ B) : w.ownsRow B' E s v n xs := by
  refine ⟨h.1, ?_⟩
  rcases h.2 with hn | ⟨g, cap, cur, e, hB, rest⟩
  · exact .inl hn
  · exact .inr ⟨g, cap, cur, e, by omega, rest⟩
theorem own_keep {w w' : World} {B E s n : Nat} {v : Value} {xs : List Value} (h : w.ownsRow B E s v n xs) (hb : Below w.heap.size w w') : w'.ownsRow B E s v n xs := by
  refine ⟨h.1, ?_⟩
  rcases h.2 with hn | ⟨g, cap, cur, rfl, hB, hg, rest⟩
  · exact .inl hn
  · exact .inr ⟨g, cap, cur, rfl, hB, (hb.block g (lt_of_block hg)).trans hg, rest⟩
set_option maxRecDepth 100000 in
set_option maxHeartbeats 4000000 in
theorem text_is {A : Nat → Addr} (a : Option Addr) (c m : Nat) (ls : List ByteArray) (hm : Hid (ls.length = m)) (hm1 : m ≤ 1000) (hsz : Hid (∀ i, (ls.getD i ⟨#[]⟩).size ≤ 900)) (w : World) (hA : AsmAt A w) (hL : LsAt w a ls) :
    Calls Tryz.prog 6 #[.slice a m c] w fun e w' => TxOut A w w' (textV ls) e ∧ Below w.heap.size w w' := by
  have HA := Lib.hid hA
  have HL := Lib.hid hL
  obtain ⟨i0, hi, hz0, hz1, hz2⟩ := info_parts infoU32
  have HI := Lib.hid (⟨hi, hz0, hz1, hz2⟩ : Tryz.prog.info? 38 = some i0 ∧ i0.zero = some (.int .u32 0) ∧ i0.size = 1 ∧ i0.bytes = 4)
  obtain ⟨F, hF⟩ : ∃ F : LF, (gaAll 0 (0, fun _ => none) ls).2 = F := ⟨_, rfl⟩
  have HX : Hid (textV ls = txRun F 0 ls []) := Lib.hid (by unfold textV; rw [hF])
  have HFF := Lib.hid hF
  clear hA hL hi hz0 hz1 hz2 hF
  go_enter Tryz.func6, Tryz.ntmps6
  go_wp2_with (first
    | (go_at_call 12; (with_reducible refine (gather_is a c m ls hm hm1 hsz _ HL.out).mono ?_); rintro e w1 ⟨M, b, rfl, hlab, hMl, hb⟩; rw [HFF.out] at hlab; have HLab := Lib.hid hlab; have HB := Lib.hid hb; clear hlab hMl hb))
  go_loopw [5, 15] (fun o i wr => ∃ (k : Nat) (acc : List Int) (ad : Option Addr) (n cp : Nat), k ≤ m ∧ i = .int .i64 k ∧ o = .slice ad n cp ∧ acc.length = n ∧ n ≤ k ∧ wr.ownsRow w1.heap.size 38 1 (.slice ad n cp) n (acc.map u32) ∧ txRun F 0 ls [] = txRun F k (ls.drop k) acc ∧ Below w1.heap.size w1 wr) (fun _ i _ => m - (intOf i).toNat)
  case atStart => exact ⟨0, [], none, 0, 0, by omega, rfl, rfl, rfl, by omega, World.ownsRow_nil _ _ _ _, rfl, Below.refl _ _⟩
  case round =>
    obtain ⟨k, acc, ad, n, cp, hk, rfl, rfl, hacc, hnk, hrow, hrun, hbel⟩ := hrel
    have HRow := Lib.hid hrow
    have HRun := Lib.hid hrun
    have HAcc := Lib.hid hacc
    have HBw := Lib.hid (HB.out.trans (hbel.mono HB.out.size))
    have HLab1 := Lib.hid (HLab.out.below hbel)
    have HB1 := Lib.hid hbel
    by_cases hlt : k < m
    · have hkl : k < ls.length := by rw [hm.out]; exact hlt
      obtain ⟨adl, rfl, h1, cl⟩ := (HL.out.below HBw.out) k hkl
      obtain ⟨s, hs⟩ : ∃ s, ls.getD k ⟨#[]⟩ = s := ⟨_, rfl⟩
      have hs9 : s.size ≤ 900 := by rw [← hs]; exact hsz.out k
      have hdr : ls.drop k = s :: ls.drop (k + 1) := by
        rw [List.drop_eq_getElem_cons hkl, ← hs]
        simp [List.getD, hkl]
      rw [hs] at cl
      obtain ⟨nt, HN⟩ : ∃ nt, Hid ((tokB s).length = nt) := ⟨_, Lib.hid rfl⟩
      have hn1 : nt ≤ 1000 := by rw [← HN.out]; exact Nat.le_trans (tok_count s) (by omega)
      have HTS : Hid (∀ x, x ∈ tokB s → x.size ≤ 100000) := Lib.hid (fun x hx => by
        obtain ⟨i, hi, e⟩ := List.mem_iff_getElem.1 hx
        have := tok_size s i
        simp [List.getD, hi, e] at this
        omega)
      have HTS2 : Hid (∀ i, ((tokB s).getD i ⟨#[]⟩).size ≤ 100000) := Lib.hid (fun i => Nat.le_trans (tok_size s i) (by omega))
      have k0 : (0 : Int) ≤ (k : Int) := by omega
      have k1 : (k : Int) < (m : Int) := by omega
      obtain ⟨⟨⟨v, t⟩, o⟩, hwd⟩ : ∃ y, wdV F k (tokB s) = y := ⟨_, rfl⟩
      have HWd := Lib.hid hwd
      have hr2 := HRun.out
      rw [hdr] at hr2
      cases o with
      | some er =>
        have her := wdV_er hwd
        have HE : Hid (textV ls = ([], some (k, er))) := Lib.hid (by
          rw [HX.out, hr2]
          simp only [txRun, hwd])
        clear hrow hrun hacc hbel hs hkl h1 hdr hwd hr2
        go_wp2_with (first
          | (go_at_call 14; (with_reducible refine (words_is s (by omega) nt HN _).mono ?_); rintro e w2 ⟨B, rfl, hw, hBB, hb⟩; have HW := Lib.hid hw; have HB2 := Lib.hid (HBw.out.trans (hb.mono HBw.out.size)); have HLab2 := Lib.hid (HLab1.out.below hb); clear hw hBB hb)
          | (go_at_call 13; (with_reducible refine (wordof_is B nt nt M b k F (tokB s) HN hn1 (by omega) HTS HTS2 v t (some er) HWd _ (HA.out.below HB2.out) HW.out HLab2.out).mono ?_); rintro e w3 ⟨rfl, hb⟩; rw [show erV A (some er) = errC (sA A er) from rfl]; have HB3 := Lib.hid (HB2.out.trans (hb.mono HB2.out.size)); clear hb))
        go_ret2
        have hbx : Below w.heap.size w (w3.alloc (.cells #[.int .i64 (k : Int), errC (sA A er)] 48)) := HB3.out.alloc HB3.out.size _
        refine ⟨⟨none, 0, 0, (Value.iface 46 (.pointer (some ⟨w3.heap.size, 0, none⟩))), rfl, by rw [HE.out]; rfl, by rw [HE.out]; exact World.ownsRow_nil _ _ _ _, .inr ⟨k, er, w3.heap.size, by rw [HE.out], her, rfl, ?_⟩⟩, hbx⟩
        exact fun hS => FaultIs.at hS er her (k : Int) w3.heap.size ⟨by simp, by simp, by simp⟩
      | none =>
        cases t with
        | true =>
          have HE : Hid (txRun F 0 ls [] = txRun F (k + 1) (ls.drop (k + 1)) (acc ++ [v])) := Lib.hid (by
            rw [hr2]
            simp only [txRun, hwd, if_true])
          clear hrow hrun hacc hbel hs hkl h1 hdr hwd hr2
          go_wp2_with (first
            | (go_at_call 14; (with_reducible refine (words_is s (by omega) nt HN _).mono ?_); rintro e w2 ⟨B, rfl, hw, hBB, hb⟩; have HW := Lib.hid hw; have HB2 := Lib.hid (HBw.out.trans (hb.mono HBw.out.size)); have HB2b := Lib.hid hb; have HLab2 := Lib.hid (HLab1.out.below hb); clear hw hBB hb)
            | (go_at_call 13; (with_reducible refine (wordof_is B nt nt M b k F (tokB s) HN hn1 (by omega) HTS HTS2 v true none HWd _ (HA.out.below HB2.out) HW.out HLab2.out).mono ?_); rintro e w3 ⟨rfl, hb⟩; rw [show erV A none = Value.nilIface from rfl]; have HB3 := Lib.hid (HB2.out.trans (hb.mono HB2.out.size)); have HB3b := Lib.hid (HB2b.out.trans (hb.mono HB2b.out.size)); have HR3 := Lib.hid (own_keep HRow.out HB3b.out); clear hb)
            | (at_builtin; refine wpList_append_own_at _ rfl _ _ 23 rfl w1.heap.size 38 i0 (.int .u32 0) 1 4 Tryz.underlying23 HI.out.1 HI.out.2.1 HI.out.2.2.1 HI.out.2.2.2 rfl (by decide) _ n _ rfl (HR3.out.alloc _) ⟨w3.heap.size, 0, none⟩ 1 1 [.int .u32 v] rfl rfl (cell_one_new _ _ _) (ints_oneCell .u32 [v]) (by unfold maxLen; omega) (by omega) (by have := HB1.out.size; have := HB3b.out.size; simp; omega) ?_; intro v2 w4 hrow4 hg4 hnil hloc; have HR4 := Lib.hid hrow4; have HB4 := Lib.hid (((HB1.out.trans (HB3b.out.mono HB1.out.size)).alloc (HB1.out.trans (HB3b.out.mono HB1.out.size)).size (.cells #[.int .u32 v] 38)).grown hg4 (by have := HB1.out.size; have := HB3b.out.size; simp; omega) (fun g hg => (HR3.out.lt g hg).1)); clear hrow4 hg4 hnil hloc))
          go_roundw
          case rel =>
            have h4 := HR4.out
            obtain ⟨a3, c3, hv3⟩ := owns_shp h4
            have hl4 : (acc ++ [v]).length = n + 1 := by rw [List.length_append, HAcc.out]; rfl
            rw [hv3] at h4
            exact ⟨k + 1, acc ++ [v], a3, n + 1, c3, by omega, by go_num, hv3, hl4, by omega, by rw [List.map_append]; exact h4, HE.out, HB4.out⟩
          case measure => simp [intOf]; omega
        | false =>
          have HE : Hid (txRun F 0 ls [] = txRun F (k + 1) (ls.drop (k + 1)) acc) := Lib.hid (by
            rw [hr2]
            simp only [txRun, hwd]
            rfl)
          clear hrow hrun hacc hbel hs hkl h1 hdr hwd hr2
          go_wp2_with (first
            | (go_at_call 14; (with_reducible refine (words_is s (by omega) nt HN _).mono ?_); rintro e w2 ⟨B, rfl, hw, hBB, hb⟩; have HW := Lib.hid hw; have HB2 := Lib.hid (HBw.out.trans (hb.mono HBw.out.size)); have HB2b := Lib.hid hb; have HLab2 := Lib.hid (HLab1.out.below hb); clear hw hBB hb)
            | (go_at_call 13; (with_reducible refine (wordof_is B nt nt M b k F (tokB s) HN hn1 (by omega) HTS HTS2 v false none HWd _ (HA.out.below HB2.out) HW.out HLab2.out).mono ?_); rintro e w3 ⟨rfl, hb⟩; rw [show erV A none = Value.nilIface from rfl]; have HB3b := Lib.hid (HB2b.out.trans (hb.mono HB2b.out.size)); have HR3 := Lib.hid (own_keep HRow.out HB3b.out); clear hb))
          go_roundw
          case rel => exact ⟨k + 1, acc, ad, n, cp, by omega, by go_num, rfl, HAcc.out, by omega, HR3.out, HE.out, HB1.out.trans (HB3b.out.mono HB1.out.size)⟩
          case measure => simp [intOf]; omega
    · obtain rfl : m = k := by omega
      have hdd : decide (m < m) = false := by simp
      have HE : Hid (textV ls = (acc, none)) := Lib.hid (by
        rw [HX.out, HRun.out, List.drop_of_length_le (by rw [hm.out]; exact Nat.le_refl _)]
        rfl)
      clear hrow hrun hacc hbel
      go_wp2_with fail
      go_ret2
      exact ⟨⟨ad, n, cp, .nilIface, rfl, by rw [HE.out]; exact HAcc.out, by rw [HE.out]; exact own_bs HRow.out HB.out.size, .inl ⟨by rw [HE.out], rfl⟩⟩, HBw.out⟩
end Go.Proofs.YtaekccgcnlepaaaGreatDoor
