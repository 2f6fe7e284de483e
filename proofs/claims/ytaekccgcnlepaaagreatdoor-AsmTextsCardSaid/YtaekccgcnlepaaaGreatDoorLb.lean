/-
  package asm: names of places: what they are in memory; placeOf, value with names, nameIn.
-/
import Derived.Test.YtaekccgcnlepaaaGreatDoorAs3
import Derived.Maps.OwnSet
import Derived.Maps.Views
import Derived.StringKeys
namespace Go.Proofs.YtaekccgcnlepaaaGreatDoor
open Go.ChangeShapes Go.WideShapes Go.ChangeAt Go.RowKit Go.Maps
set_option linter.unusedVariables false
set_option linter.unusedSimpArgs false
def labD (a b : Int) : DataW Unit := .agg [.lit (.int .i64 a), .lit (.int .i64 b)]
/-- How a label reads. -/
def labE : Value → Option (DataW Unit × List MemPlace)
  | .agg cs => match cs.toList with
    | [.int .i64 a, .int .i64 b] => some (labD a b, [])
    | _ => none
  | _ => none
theorem labE_mk (a b : Int) : labE (.agg #[.int .i64 a, .int .i64 b]) = some (labD a b, []) := rfl
theorem labE_inv {v : Value} {a b : Int} {ps : List MemPlace} (h : labE v = some (labD a b, ps)) : v = .agg #[.int .i64 a, .int .i64 b] := by
  unfold labE at h
  split at h
  · rename_i cs
    split at h
    · rename_i x y hc
      simp only [Option.some.injEq, Prod.mk.injEq, labD, DataW.agg.injEq, List.cons.injEq, DataW.lit.injEq, Lit.int.injEq, true_and, and_true] at h
      obtain ⟨⟨rfl, rfl⟩, _⟩ := h
      have : cs = #[.int .i64 x, .int .i64 y] := by rw [← Array.toList_inj]; exact hc
      rw [this]
    · cases h
  · cases h
theorem lawS : Maps.Keyed Tryz.prog 9 := Maps.string_keyed Tryz.underlying9
theorem zeroLab (w : World) : (zeroValue 71).run Tryz.prog w = .ok (.agg #[.int .i64 0, .int .i64 0]) w := by kernel_rfl
/-- The names of a text at block M: for each name its line, its place. -/
def LabAt (w : World) (M b : Nat) (f : List UInt8 → Option (Int × Int)) : Prop :=
  ∃ D, w.ownsMap Tryz.prog 9 labE M b D ∧ (∀ l, Maps.has D (.string l) = (f l).isSome) ∧ (∀ l, D.atKey (.string l) (labD 0 0) = labD ((f l).getD (0, 0)).1 ((f l).getD (0, 0)).2)
theorem keyS (s : ByteArray) (hs : s.size ≤ 1000000) : keyOf Tryz.prog 9 (.string s) = some (.string s.data.toList) := WideMaps.keyOf_string_mk Tryz.underlying9 (by unfold maxLen; omega)
theorem LabAt.below {w w' : World} {M b : Nat} {f : List UInt8 → Option (Int × Int)} (h : LabAt w M b f) (hb : Below w.heap.size w w') : LabAt w' M b f := by
  obtain ⟨D, h1, h2, h3⟩ := h
  exact ⟨D, h1.kept (row := none) ⟨hb.os, hb.tape, hb.output, hb.size, fun k hk _ => hb.block k hk⟩ (by simp), h2, h3⟩
theorem LabAt.lt {w : World} {M b : Nat} {f : List UInt8 → Option (Int × Int)} (h : LabAt w M b f) : M < w.heap.size := by
  obtain ⟨D, h1, h2, h3⟩ := h
  exact h1.lt
theorem LabAt.made (w : World) : LabAt (w.alloc (.map #[] 0)) w.heap.size 0 (fun _ => none) :=
  ⟨.map [], World.ownsMap_made w _ _ _, fun l => by simp [Maps.has], fun l => by simp [DataW.atKey]⟩
theorem wpList_lookup_lab (w : World) {ops : Array Oper} {rest : List Oper} {o : Oper} {a : Act} {Q : Exit → Act → World → Prop} (hg : o.guard = none) (m x : Operand) (hop : o.op = Op.lookup 41 m x true)
    {M b : Nat} {f : List UInt8 → Option (Int × Int)} (hm : a.eval m = .map (some M)) (hown : LabAt w M b f) (key : ByteArray) (hs : key.size ≤ 1000000) (hx : a.eval x = .string key) (p q : Int) (t : Bool) (hf : Hid (((f key.data.toList).getD (0, 0)) = (p, q) ∧ (f key.data.toList).isSome = t))
    (hK : wpList Tryz.prog ops Q rest (a.put o.dst (.tuple #[.agg #[.int .i64 p, .int .i64 q], .bool t])) w) : wpList Tryz.prog ops Q (o :: rest) a w := by
  obtain ⟨D, h1, h2, h3⟩ := hown
  refine wpList_lookup_own_ok w hg m x _ hop 9 71 lawS Tryz.underlying41 labE (zeroLab w) (labD 0 0) [] (labE_mk 0 0) M b D hm h1 _ _ hx (keyS key hs) fun v ps hv => ?_
  rw [h3, hf.out.1] at hv
  rw [labE_inv hv, h2, hf.out.2]
  exact hK
theorem wpList_lookup_lab1 (w : World) {ops : Array Oper} {rest : List Oper} {o : Oper} {a : Act} {Q : Exit → Act → World → Prop} (hg : o.guard = none) (m x : Operand) (hop : o.op = Op.lookup 41 m x false)
    {M b : Nat} {f : List UInt8 → Option (Int × Int)} (hm : a.eval m = .map (some M)) (hown : LabAt w M b f) (key : ByteArray) (hs : key.size ≤ 1000000) (hx : a.eval x = .string key) (p q : Int) (hf : Hid (((f key.data.toList).getD (0, 0)) = (p, q)))
    (hK : wpList Tryz.prog ops Q rest (a.put o.dst (.agg #[.int .i64 p, .int .i64 q])) w) : wpList Tryz.prog ops Q (o :: rest) a w := by
  obtain ⟨D, h1, h2, h3⟩ := hown
  refine wpList_plain hg fun K' hK' => ?_
  obtain ⟨v, ps, hrun, hv⟩ := h1.lookup lawS Tryz.underlying41 (zeroLab w) (labE_mk 0 0) (keyS key hs)
  rw [h3, hf.out] at hv
  rw [labE_inv hv] at hrun
  unfold Oper.wp
  simp [execOp, hop, hm, hx, hrun, Result.andThen]
  exact hK' _ _ hK
/-- A name more. -/
def labU (f : List UInt8 → Option (Int × Int)) (l : List UInt8) (p q : Int) : List UInt8 → Option (Int × Int) := fun x => if x = l then some (p, q) else f x
theorem wpList_put_lab (w : World) {ops : Array Oper} {rest : List Oper} {o : Oper} {a : Act} {Q : Exit → Act → World → Prop} (hg : o.guard = none) (m x v : Operand) (hop : o.op = Op.mapUpdate 41 m x v)
    {M b : Nat} {f : List UInt8 → Option (Int × Int)} (hm : a.eval m = .map (some M)) (hown : LabAt w M b f) (hb : b ≤ 1000000) (key : ByteArray) (hs : key.size ≤ 1000000) (hx : a.eval x = .string key) (p q : Int) (hv : a.eval v = .agg #[.int .i64 p, .int .i64 q])
    (hK : ∀ w', LabAt w' M (b + 1) (labU f key.data.toList p q) → w.grownBy w' (some M) → wpList Tryz.prog ops Q rest (a.put o.dst undef) w') : wpList Tryz.prog ops Q (o :: rest) a w := by
  obtain ⟨D, h1, h2, h3⟩ := hown
  refine wpList_mapUpdate_own w hg m x v _ hop 9 71 lawS Tryz.underlying41 labE M b D hm h1 (by unfold maxLen; omega) _ _ _ hx hv (keyS key hs) _ [] (labE_mk p q) fun w' hm' hg' => hK w' ⟨_, hm', fun l => ?_, fun l => ?_⟩ hg'
  · by_cases e : l = key.data.toList
    · subst e
      rw [Maps.has_put_same h1.isMap (by trivial)]
      simp [labU]
    · rw [Maps.has_put_other (by simpa using e), h2]
      simp [labU, e]
  · by_cases e : l = key.data.toList
    · subst e
      rw [Maps.atKey_put_same h1.isMap (by trivial)]
      simp [labU]
    · rw [Maps.atKey_put_other (by simpa using e), h3]
      simp [labU, e]
/-- Where a name's place is. -/
def plS (f : List UInt8 → Option (Int × Int)) (l : List UInt8) : Int × Option Nat := match f l with | some (p, q) => (q, none) | none => (0, some 4)
set_option maxRecDepth 100000 in
theorem placeof_is {A : Nat → Addr} (M b : Nat) (f : List UInt8 → Option (Int × Int)) (s : ByteArray) (hs : s.size ≤ 1000000) (n : Int) (o : Option Nat) (h : Hid (plS f s.data.toList = (n, o))) (w : World) (hA : AsmAt A w) (hL : LabAt w M b f) :
    Calls Tryz.prog 73 #[.map (some M), .string s] w fun e w' => e = .returned (.tuple #[.int .i64 n, erV A o]) ∧ Below w.heap.size w w' := by
  have HL := Lib.hid hL
  have hh := h.out
  unfold plS at hh
  have c4 := hA.sen.c4
  have s4 := hA.sen.s4
  clear hL
  cases hf : f s.data.toList with
  | none =>
    rw [hf] at hh
    obtain ⟨rfl, rfl⟩ := Prod.mk.inj hh
    have HF : Hid (((f s.data.toList).getD (0, 0)) = (0, 0) ∧ (f s.data.toList).isSome = false) := Lib.hid (by rw [hf]; exact ⟨rfl, rfl⟩)
    clear hh hf
    go_enter Tryz.func73, Tryz.ntmps73
    go_wp2_with (first
      | (at_lookup; refine wpList_lookup_lab _ rfl _ _ rfl rfl HL.out s hs rfl 0 0 false HF ?_))
    go_quiet (fail)
    go_wp2
    go_ret2
    exact ⟨rfl, below_dN2 ((Below.refl _ _).alloc (Nat.le_refl _) _) _⟩
  | some x =>
    obtain ⟨p, q⟩ := x
    rw [hf] at hh
    obtain ⟨rfl, rfl⟩ := Prod.mk.inj hh
    have HF : Hid (((f s.data.toList).getD (0, 0)) = (p, q) ∧ (f s.data.toList).isSome = true) := Lib.hid (by rw [hf]; exact ⟨rfl, rfl⟩)
    clear hh hf
    go_enter Tryz.func73, Tryz.ntmps73
    go_wp2_with (first
      | (at_lookup; refine wpList_lookup_lab _ rfl _ _ rfl rfl HL.out s hs rfl p q true HF ?_))
    go_ret2
    exact ⟨rfl, (Below.refl _ _).alloc (Nat.le_refl _) _⟩
/-- A number, or a name's place. -/
def numS (f : List UInt8 → Option (Int × Int)) (l : List UInt8) : Int × Option Nat := if nameL l = true then plS f l else decS2 l
set_option maxRecDepth 100000 in
theorem val_nl {A : Nat → Addr} (M b : Nat) (f : List UInt8 → Option (Int × Int)) (s : ByteArray) (hs : s.size ≤ 1000000) (n : Int) (o : Option Nat) (h : Hid (numS f s.data.toList = (n, o))) (w : World) (hA : AsmAt A w) (hL : LabAt w M b f) :
    Calls Tryz.prog 56 #[.string s, .int .i32 110, .map (some M)] w fun e w' => e = .returned (.tuple #[.int .i64 n, erV A o]) ∧ Below w.heap.size w w' := by
  have HL := Lib.hid hL
  have HA := Lib.hid hA
  have hh := h.out
  unfold numS at hh
  have hq : ∀ W : World, (binOp .neq 41 (.map (some M)) (.map none)).run Tryz.prog W = .ok (.bool true) W := fun W => neq_labels (some M) W
  clear hL hA
  cases hnm : nameL s.data.toList
  · rw [hnm, if_neg (by simp)] at hh
    have HD := Lib.hid hh
    have HN := Lib.hid hnm
    clear hh hnm
    go_enter Tryz.func56, Tryz.ntmps56
    go_wp2_with (first
      | (go_at_call 53; (with_reducible refine (nameB_is s hs false HN _).mono ?_); rintro e w1 ⟨rfl, hb⟩; have HB := Lib.hid hb; clear hb)
      | (go_at_call 30; (with_reducible refine (dec_is s hs n o HD _ (HA.out.below HB.out)).mono ?_); rintro e w2 ⟨rfl, hb⟩; have HB2 := Lib.hid (HB.out.trans (hb.mono HB.out.size)); clear hb))
    go_ret2
    exact ⟨rfl, HB2.out⟩
  · rw [hnm, if_pos rfl] at hh
    have HD := Lib.hid hh
    have HN := Lib.hid hnm
    clear hh hnm
    go_enter Tryz.func56, Tryz.ntmps56
    go_wp2_with (first
      | (go_at_call 53; (with_reducible refine (nameB_is s hs true HN _).mono ?_); rintro e w1 ⟨rfl, hb⟩; have HB := Lib.hid hb; clear hb)
      | (go_at_call 73; (with_reducible refine (placeof_is M b f s hs n o HD _ (HA.out.below HB.out) (HL.out.below HB.out)).mono ?_); rintro e w2 ⟨rfl, hb⟩; have HB2 := Lib.hid (HB.out.trans (hb.mono HB.out.size)); clear hb))
    go_ret2
    exact ⟨rfl, HB2.out⟩
/-- The name that a line of these words gives; none: it gives none. -/
def nmIn (ws : List ByteArray) : Option (List UInt8) := match ws with
  | [x] => if Lib.hasSuffix x.data.toList [58] = true ∧ nameL (Lib.trimSuffix x.data.toList [58]) = true then some (Lib.trimSuffix x.data.toList [58]) else none
  | _ => none
def NmR (ws : List ByteArray) (nm : ByteArray) (t : Bool) : Prop := (nmIn ws = some nm.data.toList ∧ t = true) ∨ (nmIn ws = none ∧ t = false ∧ nm = ⟨#[]⟩)
set_option maxRecDepth 100000 in
theorem namein_is (B c n : Nat) (ws : List ByteArray) (hn : Hid (ws.length = n)) (hn1 : n ≤ 1000000) (hz : Hid (∀ x, x ∈ ws → x.size ≤ 100000)) (nm : ByteArray) (t : Bool) (h : Hid (NmR ws nm t)) (w : World) (hW : WsAt w B ws) :
    Calls Tryz.prog 29 #[.slice (some ⟨B, 0, none⟩) n c] w fun e w' => e = .returned (.tuple #[.string nm, .bool t]) ∧ Below w.heap.size w w' := by
  by_cases h1 : n = 1
  · obtain ⟨x, rfl⟩ : ∃ x, ws = [x] := by
      have := hn.out
      rw [h1] at this
      exact List.length_eq_one_iff.1 this
    subst h1
    have hc := hW.at' 0 (by simp)
    simp only [List.getD_cons_zero] at hc
    have hx := hz.out x (by simp)
    have HC := Lib.hid (fun W => Tryz.strings_CutSuffix x ⟨#[58]⟩ W (by omega))
    rw [show (⟨#[58]⟩ : ByteArray).data.toList = [58] from rfl] at HC
    obtain ⟨rs, hrs⟩ : ∃ rs : ByteArray, rs = ⟨(Lib.trimSuffix x.data.toList [58]).toArray⟩ := ⟨_, rfl⟩
    rw [← hrs] at HC
    have hrl : rs.data.toList = Lib.trimSuffix x.data.toList [58] := by rw [hrs]
    have hrz : rs.size ≤ x.size := by
      rw [← ba_len, hrl, ← ba_len]
      unfold Lib.trimSuffix
      split
      · exact Nat.le_trans (List.length_take_le _ _) (by omega)
      · exact Nat.le_refl _
    have hh := h.out
    unfold NmR nmIn at hh
    simp only at hh
    clear hrs hW
    cases hp : Lib.hasSuffix x.data.toList [58]
    · rw [hp] at HC
      rw [hp, if_neg (by simp)] at hh
      obtain ⟨-, rfl, rfl⟩ := hh.resolve_left (by simp)
      clear hp
      go_enter Tryz.func29, Tryz.ntmps29
      go_wp2_with (first
        | (go_at_call 52; (with_reducible refine (HC.out _).mono ?_); rintro e w1 ⟨rfl, rfl⟩))
      go_ret2
      exact ⟨rfl, Below.refl _ _⟩
    · rw [hp] at HC
      rw [hp] at hh
      cases hnm : nameL rs.data.toList
      · rw [← hrl, hnm, if_neg (by simp)] at hh
        obtain ⟨-, rfl, rfl⟩ := hh.resolve_left (by simp)
        have HN := Lib.hid hnm
        clear hp hnm
        go_enter Tryz.func29, Tryz.ntmps29
        go_wp2_with (first
          | (go_at_call 52; (with_reducible refine (HC.out _).mono ?_); rintro e w1 ⟨rfl, rfl⟩)
          | (go_at_call 53; (with_reducible refine (nameB_is rs (by omega) false HN _).mono ?_); rintro e w2 ⟨rfl, hb⟩; have HB := Lib.hid hb; clear hb))
        go_ret2
        exact ⟨rfl, HB.out⟩
      · rw [← hrl, hnm, if_pos (by simp)] at hh
        obtain ⟨he, rfl⟩ := hh.resolve_right (by simp)
        have hnr : nm = rs := by
          have := Option.some.inj he
          cases nm; cases rs
          congr
          exact Array.toList_inj.1 this.symm
        subst hnr
        have HN := Lib.hid hnm
        clear hp hnm he
        go_enter Tryz.func29, Tryz.ntmps29
        go_wp2_with (first
          | (go_at_call 52; (with_reducible refine (HC.out _).mono ?_); rintro e w1 ⟨rfl, rfl⟩)
          | (go_at_call 53; (with_reducible refine (nameB_is nm (by omega) true HN _).mono ?_); rintro e w2 ⟨rfl, hb⟩; have HB := Lib.hid hb; clear hb))
        go_ret2
        exact ⟨rfl, HB.out⟩
  · have e0 : ((n : Int) != 1) = true := by simp; omega
    have hh := h.out
    unfold NmR at hh
    have hno : nmIn ws = none := by
      match ws, hn.out with
      | [], _ => rfl
      | [x], h2 => exact absurd h2.symm h1
      | _ :: _ :: _, _ => rfl
    obtain ⟨-, rfl, rfl⟩ := hh.resolve_left (by rw [hno]; simp)
    clear hW
    go_enter Tryz.func29, Tryz.ntmps29
    go_wp2_with fail
    go_ret2
    exact ⟨rfl, Below.refl _ _⟩
end Go.Proofs.YtaekccgcnlepaaaGreatDoor
