/-
  package text: only, Name, Number, Words, Silent.
-/
import Derived.Test.YtaekccgcnlepaaaGreatDoorOpen
import Derived.Test.YtaekccgcnlepaaaGreatDoorTs
import Derived.Test.YtaekccgcnlepaaaGreatDoorShelf
import Derived.Outline
import Derived.Deep.RegionWith
import Derived.Deep.RegionHeld3
import Derived.Deep.QuietTactic
import Derived.BigQuiet
import Derived.WalkLawsBesides
import Derived.WalkSpells
import Derived.Lib.OthersKept
import Derived.Lib.SpaceUEq
import Derived.Lib.FieldsP
import Derived.Deep.Upon
import Derived.Shelf.Small.Wraps
import Derived.Shelf.Strconv.Atoi
import Derived.Lib.AtoiErrMem
namespace Go.Proofs.YtaekccgcnlepaaaGreatDoor
open Go.ChangeShapes Go.WideShapes Go.ChangeAt Go.RowKit
set_option linter.unusedVariables false
set_option linter.unusedSimpArgs false
/-- A byte from lo to hi. -/
def inB (lo hi : Nat) (b : UInt8) : Bool := decide (lo ≤ b.toNat ∧ b.toNat ≤ hi)
def onlyB (lo hi : Nat) (s : ByteArray) : Bool := s.data.toList.all (inB lo hi)
/-- A rune that is no ASCII is great. -/
theorem decode_great (s : ByteArray) (i : Nat) (h : i < s.size) (hb : ¬ (s[i]'h).toNat < 128) : 128 ≤ (Utf8.decode s i).1 := by
  rw [Lib.decode_at, ba_bang s i h]
  rcases Lib.decodeN_cases (s.size - i) (s[i]'h).toNat (s.get! (i + 1)).toNat (s.get! (i + 2)).toNat (s.get! (i + 3)).toNat with ⟨c, e⟩ | ⟨c1, c2, c3, cv, e⟩ | ⟨c1, c2, c3, c4, cv, e⟩ | ⟨c, e⟩ | e
  · exact absurd c hb
  · rw [e]; exact cv
  · rw [e]; show 128 ≤ _; omega
  · omega
  · rw [e]; decide
theorem take_all {P : UInt8 → Bool} (l : List UInt8) (k : Nat) (b : UInt8) (h : (l.take k).all P = true) (hb : l[k]? = some b) : (l.take (k + 1)).all P = P b := by
  obtain ⟨hk, e⟩ := List.getElem?_eq_some_iff.1 hb
  rw [List.take_succ_eq_append_getElem hk, List.all_append, h, e]
  simp
theorem all_not {P : UInt8 → Bool} (l : List UInt8) (k : Nat) (b : UInt8) (hb : l[k]? = some b) (hp : P b = false) : l.all P = false := by
  rw [← Bool.not_eq_true]
  intro h
  rw [List.all_eq_true] at h
  have := h b (List.mem_of_getElem? hb)
  rw [hp] at this
  cases this
theorem below_iter {w wr : World} {k : Nat} (h : Below w.heap.size w wr) (hk : w.heap.size ≤ k) (s : ByteArray) (p : Nat) : Below w.heap.size w (wr.iterAt k s p) := Lib.below_iterAt h hk s p
set_option maxRecDepth 100000 in
theorem only_is (s : ByteArray) (hs : s.size ≤ 1000000) (lo hi : Nat) (hh : hi < 128) (t : Bool) (ht : Hid (onlyB lo hi s = t)) (w : World) :
    Calls Tryz.prog 71 #[.string s, .int .i32 (lo : Int), .int .i32 (hi : Int)] w fun e w' => e = .returned (.bool t) ∧ Below w.heap.size w w' := by
  go_enter Tryz.func71, Tryz.ntmps71
  go_wp2_with fail
  go_loopw [] (fun wr => ∃ pos : Nat, pos ≤ s.size ∧ wr.heap[w.heap.size]? = some (.stringIter s pos) ∧ Below w.heap.size w wr ∧ (s.data.toList.take pos).all (inB lo hi) = true) (fun wr => s.size - wr.iterPos w.heap.size)
  case atStart => exact ⟨0, Nat.zero_le _, World.iter_heap w s 0, (Below.refl _ _).alloc (Nat.le_refl _) _, rfl⟩
  case round =>
    obtain ⟨pos, hp, hit, hbw, hall⟩ := hrel
    have HB := Lib.hid hbw
    have HA := Lib.hid hall
    by_cases hlt : pos < s.size
    · have hg := ba_get s pos hlt
      have hn := take_all _ _ _ hall hg
      by_cases h128 : (s[pos]'hlt).toNat < 128
      · have hnx : ∀ ty, (Instr.next (.pointer (some ⟨w.heap.size, 0, none⟩)) true ty).run Tryz.prog wr = _ := fun ty => Lib.run_next_ascii_at wr w.heap.size s pos ty hit hlt h128
        have hit2 := Lib.iterAt_heap wr w.heap.size s pos (pos + 1) hit
        have hbw2 := Lib.below_iterAt hbw (k := w.heap.size) (Nat.le_refl _) s (pos + 1)
        obtain ⟨W, hW⟩ : ∃ W, wr.iterAt w.heap.size s (pos + 1) = W := ⟨_, rfl⟩
        rw [hW] at hnx hit2 hbw2
        have HI2 := Lib.hid hit2
        have HB2 := Lib.hid hbw2
        have HG := Lib.hid hg
        obtain ⟨R, hR⟩ : ∃ R, (s[pos]'hlt).toNat = R := ⟨_, rfl⟩
        rw [hR] at hnx h128
        have hin : inB lo hi (s[pos]'hlt) = decide (lo ≤ R ∧ R ≤ hi) := by unfold inB; rw [hR]
        have HP := Lib.hid (show s.size - W.iterPos w.heap.size < s.size - wr.iterPos w.heap.size by (simp only [World.iterPos, hit, hit2]; omega))
        clear hbw hall hit hit2 hbw2 hg hR hW
        by_cases hl : R < lo
        · have d1 : decide ((R : Int) < (lo : Int)) = true := by simp; omega
          have HT : Hid (t = false) := Lib.hid (by rw [← ht.out]; exact all_not _ _ _ HG.out (by rw [hin]; simp; omega))
          clear hin hn
          go_wp2_with fail
          go_ret
          exact ⟨by rw [HT.out]; rfl, HB2.out⟩
        · have d1 : decide ((R : Int) < (lo : Int)) = false := by simp; omega
          by_cases hh2 : hi < R
          · have d2 : decide ((hi : Int) < (R : Int)) = true := by simp; omega
            have HT : Hid (t = false) := Lib.hid (by rw [← ht.out]; exact all_not _ _ _ HG.out (by rw [hin]; simp; omega))
            clear hin hn
            go_wp2_with fail
            go_ret
            exact ⟨by rw [HT.out]; rfl, HB2.out⟩
          · have d2 : decide ((hi : Int) < (R : Int)) = false := by simp; omega
            have HN : Hid ((s.data.toList.take (pos + 1)).all (inB lo hi) = true) := Lib.hid (by rw [hn, hin]; simp; omega)
            clear hin hn
            go_wp2_with fail
            go_roundw
            case rel => exact ⟨pos + 1, by omega, HI2.out, HB2.out, HN.out⟩
            case measure => exact HP.out
      · have hnx : ∀ ty, (Instr.next (.pointer (some ⟨w.heap.size, 0, none⟩)) true ty).run Tryz.prog wr = _ := fun ty => Lib.run_next_any_at wr w.heap.size s pos ty hit hlt
        have hgr := decode_great s pos hlt h128
        have HB2 := Lib.hid (Lib.below_iterAt hbw (k := w.heap.size) (Nat.le_refl _) s (pos + (Utf8.decode s pos).2))
        obtain ⟨W, hW⟩ : ∃ W, wr.iterAt w.heap.size s (pos + (Utf8.decode s pos).2) = W := ⟨_, rfl⟩
        rw [hW] at hnx HB2
        have hrl := Lib.rune_le s pos
        obtain ⟨R, hR⟩ : ∃ R, (Utf8.decode s pos).1 = R := ⟨_, rfl⟩
        rw [hR] at hnx hgr hrl
        have HT : Hid (t = false) := Lib.hid (by rw [← ht.out]; exact all_not _ _ _ hg (by unfold inB; simp; omega))
        have d2 : decide ((hi : Int) < (R : Int)) = true := by simp; omega
        clear hbw hall hit hg hn hR hW h128
        by_cases hl : R < lo
        · have d1 : decide ((R : Int) < (lo : Int)) = true := by simp; omega
          go_wp2_with fail
          go_ret
          exact ⟨by rw [HT.out]; rfl, HB2.out⟩
        · have d1 : decide ((R : Int) < (lo : Int)) = false := by simp; omega
          go_wp2_with fail
          go_ret
          exact ⟨by rw [HT.out]; rfl, HB2.out⟩
    · have hnx : ∀ ty, (Instr.next (.pointer (some ⟨w.heap.size, 0, none⟩)) true ty).run Tryz.prog wr = _ := fun ty => Lib.run_next_end_at wr w.heap.size s pos ty hit hlt
      have HT : Hid (t = true) := Lib.hid (by
        rw [← ht.out]
        unfold onlyB
        rw [List.take_of_length_le (by rw [ba_len]; omega)] at hall
        exact hall)
      clear hbw hall hit
      go_wp2_with fail
      go_ret
      exact ⟨by rw [HT.out]; rfl, HB.out⟩
/-- Letters alone? -/
def nameL (l : List UInt8) : Bool := !l.isEmpty && l.all (inB 97 122)
theorem nameB_is (s : ByteArray) (hs : s.size ≤ 1000000) (t : Bool) (ht : Hid (nameL s.data.toList = t)) (w : World) :
    Calls Tryz.prog 53 #[.string s] w fun e w' => e = .returned (.bool t) ∧ Below w.heap.size w w' := by
  obtain ⟨o, ho⟩ : ∃ o, Hid (onlyB 97 122 s = o) := ⟨_, Lib.hid rfl⟩
  by_cases hne : s.toList = []
  · have HT : Hid (t = false) := Lib.hid (by rw [← ht.out, ← Lib.toList_data, hne]; rfl)
    go_enter Tryz.func53, Tryz.ntmps53
    go_wp2_with fail
    go_ret
    exact ⟨by rw [HT.out]; rfl, Below.refl _ _⟩
  · have HT : Hid (t = o) := Lib.hid (by
      rw [← ht.out, ← ho.out]
      unfold nameL onlyB
      have : s.data.toList.isEmpty = false := by rw [← Lib.toList_data]; simpa using hne
      rw [this]; rfl)
    have HC : Hid (∀ W : World, Calls Tryz.prog 71 #[.string s, .int .i32 97, .int .i32 122] W fun e w' => e = .returned (.bool o) ∧ Below W.heap.size W w') := Lib.hid (fun W => only_is s hs 97 122 (by decide) o ho W)
    go_enter Tryz.func53, Tryz.ntmps53
    go_wp2_with (first
      | (go_at_call 71; (with_reducible refine (HC.out _).mono ?_); rintro e w1 ⟨rfl, hb⟩; have HB := Lib.hid hb; clear hb))
    go_ret
    exact ⟨by (show Ending.returned (.bool (!s.toList.isEmpty && o)) = _; rw [← ht.out, ← ho.out, Lib.toList_data]; rfl), HB.out⟩
/-- A number of one to nine digits, no 0 ahead of others. -/
def numL (l : List UInt8) : Option Nat := if l = [] ∨ 9 < l.length ∨ (l.head? = some 48 ∧ l ≠ [48]) ∨ l.all (inB 48 57) = false then none else Lib.decNat l
theorem dec_all (l : List UInt8) (h : l.all (inB 48 57) = true) : ∀ acc, ∃ n, Lib.decFrom acc l = some n ∧ n < (acc + 1) * 10 ^ l.length := by
  induction l with
  | nil => intro acc; exact ⟨acc, rfl, by simp⟩
  | cons b l ih =>
    intro acc
    rw [List.all_cons, Bool.and_eq_true] at h
    have hb : 48 ≤ b.toNat ∧ b.toNat ≤ 57 := by simpa [inB] using h.1
    obtain ⟨n, h1, h2⟩ := ih h.2 (acc * 10 + (b.toNat - 48))
    refine ⟨n, ?_, Nat.lt_of_lt_of_le h2 ?_⟩
    · rw [Lib.decFrom]
      have : Lib.digitVal b = some (b.toNat - 48) := by unfold Lib.digitVal; rw [if_pos hb]
      rw [this]
      exact h1
    · have h3 : acc * 10 + (b.toNat - 48) + 1 ≤ (acc + 1) * 10 := by omega
      have h4 := Nat.mul_le_mul_right (10 ^ l.length) h3
      rw [List.length_cons, Nat.pow_succ, Nat.mul_comm (10 ^ l.length) 10, ← Nat.mul_assoc]
      exact h4
theorem num_atoi (l : List UInt8) (n : Nat) (h : numL l = some n) : Lib.atoi l = some (n : Int) ∧ n < 1000000000 ∧ l ≠ [] ∧ l.length ≤ 9 ∧ ¬ (l.head? = some 48 ∧ l ≠ [48]) ∧ l.all (inB 48 57) = true := by
  unfold numL at h
  split at h
  · cases h
  · rename_i hc
    have hne : l ≠ [] := fun e => hc (.inl e)
    have hlen : l.length ≤ 9 := by
      rcases Nat.lt_or_ge 9 l.length with h' | h'
      · exact absurd (.inr (.inl h')) hc
      · exact h'
    have hall : l.all (inB 48 57) = true := by
      cases hq : l.all (inB 48 57)
      · exact absurd (.inr (.inr (.inr hq))) hc
      · rfl
    refine ⟨?_, ?_, hne, hlen, fun e => hc (.inr (.inr (.inl e))), hall⟩
    · cases l with
      | nil => exact absurd rfl hne
      | cons b r =>
        rw [List.all_cons, Bool.and_eq_true] at hall
        have hb : 48 ≤ b.toNat ∧ b.toNat ≤ 57 := by simpa [inB] using hall.1
        have n45 : (b == 45) = false := by
          rw [beq_eq_false_iff_ne]; intro e; rw [e] at hb; exact absurd hb (by decide)
        have n43 : (b == 43) = false := by
          rw [beq_eq_false_iff_ne]; intro e; rw [e] at hb; exact absurd hb (by decide)
        rw [Lib.atoi, n45, n43, if_neg (by decide), if_neg (by decide), h]
        rfl
    · obtain ⟨m, h1, h2⟩ := dec_all l hall 0
      have e : Lib.decNat l = Lib.decFrom 0 l := by
        unfold Lib.decNat
        rw [if_neg (by simpa using hne)]
      rw [e, h1] at h
      injection h with h
      subst h
      refine Nat.lt_of_lt_of_le h2 ?_
      rw [Nat.zero_add, Nat.one_mul]
      exact Nat.pow_le_pow_right (by decide) hlen
theorem idx0 (s : ByteArray) (b : UInt8) (r : List UInt8) (h : s.data.toList = b :: r) : s.size = r.length + 1 ∧ s.get! 0 = b := by
  have h1 : s.size = r.length + 1 := by rw [← ba_len, h]; rfl
  refine ⟨h1, ?_⟩
  have h2 := ba_get s 0 (by omega)
  rw [h] at h2
  rw [ba_bang s 0 (by omega)]
  injection h2 with h2
  exact h2.symm
theorem below_dN2 {w w1 : World} {B : Nat} (h : Below B w w1) (n : Nat) : Below B w (w1.drewN n) := ⟨h.os, h.tape, h.output, h.size, h.block⟩
theorem below_bytes (w : World) (e : TypeId) (s : ByteArray) : Below w.heap.size w (Lib.bytesWorld w e s) := by
  exact Lib.bytesWorld_below w e s
set_option maxRecDepth 100000 in
set_option maxHeartbeats 1000000 in
theorem tnum_yes (s : ByteArray) (n : Nat) (h : Hid (numL s.data.toList = some n)) (w : World) :
    Calls Tryz.prog 54 #[.string s] w fun e w' => e = .returned (.tuple #[.int .i64 (n : Int), .bool true]) ∧ Below w.heap.size w w' := by
  obtain ⟨h1, h2, h3, h4, h5, h6⟩ := num_atoi _ _ h.out
  have hs : s.size ≤ 9 := by rw [← ba_len]; exact h4
  have hne : ¬ s.toList = [] := by rw [Lib.toList_data]; exact h3
  have d9 : decide ((9 : Int) < (s.size : Int)) = false := by simp; omega
  obtain ⟨b, r, hb⟩ : ∃ b r, s.data.toList = b :: r := by
    cases hl : s.data.toList with
    | nil => exact absurd hl h3
    | cons b r => exact ⟨b, r, rfl⟩
  obtain ⟨hsz, hg⟩ := idx0 s b r hb
  have hlt : 0 < s.size := by omega
  clear hsz
  have HC : Hid (∀ W : World, Calls Tryz.prog 71 #[.string s, .int .i32 48, .int .i32 57] W fun e w' => e = .returned (.bool true) ∧ Below W.heap.size W w') := Lib.hid (fun W => only_is s (by omega) 48 57 (by decide) true (Lib.hid h6) W)
  have HA : Hid (∀ W : World, Calls Tryz.prog 72 #[.string s] W fun e w' => e = .returned (.tuple #[.int .i64 (n : Int), .nilIface]) ∧ Below W.heap.size W w') := Lib.hid (fun W => (Tryz.strconv_Atoi s n (by omega) h1 W).mono fun e w' ⟨he, t, ht⟩ => ⟨he, by rw [ht]; exact below_bytes _ _ _⟩)
  clear h1 h4 h6
  have hem : s.toList.isEmpty = false := by simpa using hne
  have hg0 : s[0]'hlt = b := by rw [← ba_bang s 0 hlt]; exact hg
  by_cases h48 : b = 48
  · have e0 : ((((s[0]'hlt).toNat : Nat) : Int) == 48) = true := by rw [hg0, h48]; rfl
    have e1 : (s.toList == [48]) = true := by
      rw [Lib.toList_data, beq_iff_eq]
      exact Classical.byContradiction fun hc => h5 ⟨by rw [hb, h48]; rfl, hc⟩
    clear hg0 hg hb h48 h3 h5 hne
    go_enter Tryz.func54, Tryz.ntmps54
    go_wp2_with (first
      | (go_at_call 71; (with_reducible refine (HC.out _).mono ?_); rintro e w1 ⟨rfl, hb⟩; have HB := Lib.hid hb; clear hb)
      | (go_at_call 72; (with_reducible refine (HA.out _).mono ?_); rintro e w2 ⟨rfl, hb⟩; have HB2 := Lib.hid (HB.out.trans (hb.mono HB.out.size)); clear hb))
    go_quiet (fail)
    go_wp2
    go_ret2
    exact ⟨rfl, below_dN2 HB2.out _⟩
  · have e0 : ((((s[0]'hlt).toNat : Nat) : Int) == 48) = false := by
      rw [hg0, beq_eq_false_iff_ne]
      intro e
      exact h48 (UInt8.toNat_inj.1 (by rw [show (48 : UInt8).toNat = 48 from rfl]; omega))
    clear hg0 hg hb h48 h3 h5 hne
    go_enter Tryz.func54, Tryz.ntmps54
    go_wp2_with (first
      | (go_at_call 71; (with_reducible refine (HC.out _).mono ?_); rintro e w1 ⟨rfl, hb⟩; have HB := Lib.hid hb; clear hb)
      | (go_at_call 72; (with_reducible refine (HA.out _).mono ?_); rintro e w2 ⟨rfl, hb⟩; have HB2 := Lib.hid (HB.out.trans (hb.mono HB.out.size)); clear hb))
    go_quiet (fail)
    go_wp2
    go_ret2
    exact ⟨rfl, below_dN2 HB2.out _⟩
set_option maxRecDepth 100000 in
set_option maxHeartbeats 1000000 in
theorem tnum_no (s : ByteArray) (hs : s.size ≤ 1000000) (h : Hid (numL s.data.toList = none)) (w : World) :
    Calls Tryz.prog 54 #[.string s] w fun e w' => e = .returned (.tuple #[.int .i64 0, .bool false]) ∧ Below w.heap.size w w' := by
  by_cases hne : s.toList = []
  · have hem : s.toList.isEmpty = true := by simpa using hne
    clear hne
    go_enter Tryz.func54, Tryz.ntmps54
    go_wp2_with fail
    go_ret2
    exact ⟨rfl, Below.refl _ _⟩
  · have hem : s.toList.isEmpty = false := by simpa using hne
    by_cases h9 : 9 < s.size
    · have d9 : decide ((9 : Int) < (s.size : Int)) = true := by simp; omega
      clear hne
      go_enter Tryz.func54, Tryz.ntmps54
      go_wp2_with fail
      go_ret2
      exact ⟨rfl, Below.refl _ _⟩
    · have d9 : decide ((9 : Int) < (s.size : Int)) = false := by simp; omega
      obtain ⟨b, r, hb⟩ : ∃ b r, s.data.toList = b :: r := by
        rw [Lib.toList_data] at hne
        cases hl : s.data.toList with
        | nil => exact absurd hl hne
        | cons b r => exact ⟨b, r, rfl⟩
      obtain ⟨hsz, hg⟩ := idx0 s b r hb
      have hlt : 0 < s.size := by omega
      clear hsz
      have hg0 : s[0]'hlt = b := by rw [← ba_bang s 0 hlt]; exact hg
      have hcase : (b = 48 ∧ s.data.toList ≠ [48]) ∨ onlyB 48 57 s = false := by
        have hh := h.out
        unfold numL at hh
        split at hh
        · rename_i hc
          rcases hc with hc | hc | hc | hc
          · exact absurd (by rw [Lib.toList_data]; exact hc) hne
          · exact absurd (by rw [← ba_len]; exact hc) h9
          · rw [hb] at hc
            exact .inl ⟨by simpa using hc.1, by rw [hb]; exact hc.2⟩
          · exact .inr hc
        · rename_i hc
          exfalso
          cases hq : s.data.toList.all (inB 48 57)
          · exact hc (.inr (.inr (.inr hq)))
          · obtain ⟨m, h1, _⟩ := dec_all s.data.toList hq 0
            rw [Lib.decNat, if_neg (by rw [hb]; simp), h1] at hh
            cases hh
      by_cases h48 : b = 48 ∧ s.data.toList ≠ [48]
      · have e0 : ((((s[0]'hlt).toNat : Nat) : Int) == 48) = true := by rw [hg0, h48.1]; rfl
        have e1 : (s.toList == [48]) = false := by rw [Lib.toList_data, beq_eq_false_iff_ne]; exact h48.2
        clear hg0 hg hb h48 hne hcase
        go_enter Tryz.func54, Tryz.ntmps54
        go_wp2_with fail
        go_ret2
        exact ⟨rfl, Below.refl _ _⟩
      · have ho : onlyB 48 57 s = false := hcase.resolve_left h48
        have HC : Hid (∀ W : World, Calls Tryz.prog 71 #[.string s, .int .i32 48, .int .i32 57] W fun e w' => e = .returned (.bool false) ∧ Below W.heap.size W w') := Lib.hid (fun W => only_is s hs 48 57 (by decide) false (Lib.hid ho) W)
        by_cases hb48 : b = 48
        · have e0 : ((((s[0]'hlt).toNat : Nat) : Int) == 48) = true := by rw [hg0, hb48]; rfl
          have e1 : (s.toList == [48]) = true := by
            rw [Lib.toList_data, beq_iff_eq]
            exact Classical.byContradiction fun hc => h48 ⟨hb48, hc⟩
          clear hg0 hg hb h48 hne hcase hb48
          go_enter Tryz.func54, Tryz.ntmps54
          go_wp2_with (first
            | (go_at_call 71; (with_reducible refine (HC.out _).mono ?_); rintro e w1 ⟨rfl, hb⟩; have HB := Lib.hid hb; clear hb))
          go_ret2
          exact ⟨rfl, HB.out⟩
        · have e0 : ((((s[0]'hlt).toNat : Nat) : Int) == 48) = false := by
            rw [hg0, beq_eq_false_iff_ne]
            intro e
            exact hb48 (UInt8.toNat_inj.1 (by rw [show (48 : UInt8).toNat = 48 from rfl]; omega))
          clear hg0 hg hb h48 hne hcase hb48
          go_enter Tryz.func54, Tryz.ntmps54
          go_wp2_with (first
            | (go_at_call 71; (with_reducible refine (HC.out _).mono ?_); rintro e w1 ⟨rfl, hb⟩; have HB := Lib.hid hb; clear hb))
          go_ret2
          exact ⟨rfl, HB.out⟩
theorem sep_is (W : World) (x : Nat) : Calls Tryz.prog 34 #[.int .i32 (x : Int)] W fun e w' => e = .returned (.bool (decide (x = 32))) ∧ Below W.heap.size W w' := by
  by_cases h : x = 32
  · have e0 : ((x : Int) == 32) = true := by simp; omega
    have HT : Hid (decide (x = 32) = true) := Lib.hid (by simp [h])
    clear h
    go_enter Tryz.func34, Tryz.ntmps34
    go_wp2
    go_ret
    exact ⟨by rw [HT.out]; rfl, Below.refl _ _⟩
  · have e0 : ((x : Int) == 32) = false := by simp; omega
    have HT : Hid (decide (x = 32) = false) := Lib.hid (by simp [h])
    clear h
    go_enter Tryz.func34, Tryz.ntmps34
    go_wp2
    go_ret
    exact ⟨by rw [HT.out]; rfl, Below.refl _ _⟩
theorem infoStr : (Tryz.prog.info? 9).map (fun i => (i.zero, i.size, i.bytes)) = some (some (.string ⟨#[]⟩), 1, 16) := by kernel_rfl
theorem infoSpan : (Tryz.prog.info? 110).map (fun i => (i.zero, i.size, i.bytes)) = some (some (.agg #[.int .i64 0, .int .i64 0]), 2, 16) := by kernel_rfl
/-- Words in a row. -/
structure WsAt (w : World) (A : Nat) (ws : List ByteArray) : Prop where
  lt : A < w.heap.size
  at' : ∀ i, i < ws.length → w.cell? ⟨A, i, none⟩ = some (.string (ws.getD i ⟨#[]⟩))
theorem WsAt.below {w w' : World} {A : Nat} {ws : List ByteArray} (h : WsAt w A ws) (hb : Below w.heap.size w w') : WsAt w' A ws :=
  ⟨Nat.lt_of_lt_of_le h.lt hb.size, fun i hi => (hb.cell (p := ⟨A, i, none⟩) h.lt).trans (h.at' i hi)⟩
set_option maxRecDepth 100000 in
theorem words_is (s : ByteArray) (hs : s.size ≤ 1000000) (n : Nat) (hn : Hid ((tokB s).length = n)) (w : World) :
    Calls Tryz.prog 14 #[.string s] w fun e w' => ∃ A, e = .returned (.slice (some ⟨A, 0, none⟩) n n) ∧ WsAt w' A (tokB s) ∧ w.heap.size ≤ A ∧ Below w.heap.size w w' := by
  have HF : Hid (Calls Tryz.prog 33 #[.string s, .func (.func 34) #[] #[]] w fun e w' => ∃ A, e = .returned (.slice (some ⟨A, 0, none⟩) n n) ∧ WsAt w' A (tokB s) ∧ w.heap.size ≤ A ∧ Below w.heap.size w w') := Lib.hid (by
    have h := Tryz.strings_FieldsFunc_grows 34 #[] (fun args w => by kernel_rfl) (fun r => decide (r = 32)) s w (by omega) (fun W x _ _ => sep_is W x)
    rw [fields_tok s _ (fun r => rfl), hn.out] at h
    refine h.mono fun e w' ⟨A, he, hA, hr, hb⟩ => ⟨A, he, ⟨(hr.lt A rfl).2, fun i hi => ?_⟩, hA, hb⟩
    rw [hr.cellAt i (by rw [← hn.out]; omega)]
    simp [List.getD, hi])
  go_enter Tryz.func14, Tryz.ntmps14
  go_wp2_with (first
    | (go_at_call 33; refine HF.out.mono ?_; rintro e w1 ⟨A, rfl, h1, h2, h3⟩; have H1 := Lib.hid h1; have H2 := Lib.hid h2; have H3 := Lib.hid h3; clear h1 h2 h3))
  go_ret
  exact ⟨A, rfl, H1.out, H2.out, H3.out⟩
/-- Does a line of these words say nothing? -/
def silentL (ws : List ByteArray) : Bool := match ws with | [] => true | x :: _ => Lib.hasPrefix x.data.toList [35]
theorem silent_is (A c n : Nat) (ws : List ByteArray) (hn : Hid (ws.length = n)) (hn1 : n ≤ 1000000) (t : Bool) (ht : Hid (silentL ws = t)) (w : World) (h : WsAt w A ws) :
    Calls Tryz.prog 28 #[.slice (some ⟨A, 0, none⟩) n c] w fun e w' => e = .returned (.bool t) ∧ w = w' := by
  cases ws with
  | nil =>
    have h0 : n = 0 := by rw [← hn.out]; rfl
    subst h0
    have HT : Hid (t = true) := Lib.hid (by rw [← ht.out]; rfl)
    clear h
    go_enter Tryz.func28, Tryz.ntmps28
    go_wp2_with fail
    go_ret
    exact ⟨by rw [HT.out]; rfl, rfl⟩
  | cons x r =>
    have hc := h.at' 0 (by simp)
    simp only [List.getD_cons_zero] at hc
    have hp : 0 < n := by rw [← hn.out]; simp
    have hp1 : ((n : Int) == 0) = false := by simp; omega
    have hp2 : (0 : Int) < (n : Int) := by omega
    have HP : Hid (Lib.hasPrefix x.data.toList (⟨#[35]⟩ : ByteArray).data.toList = t) := Lib.hid ht.out
    have HH := Lib.hid (fun W => Tryz.strings_HasPrefix x ⟨#[35]⟩ W)
    rw [HP.out] at HH
    clear h
    go_enter Tryz.func28, Tryz.ntmps28
    go_wp2_with (first
      | (go_at_call 51; (with_reducible refine (HH.out _).mono ?_); rintro e w1 ⟨rfl, rfl⟩))
    go_ret
    exact ⟨rfl, rfl⟩
end Go.Proofs.YtaekccgcnlepaaaGreatDoor
