/-
  code.Words: any instructions in a row.
-/
import Derived.Test.YtggnaalcdekccabDoorCodeBk
import Derived.Test.YtggnaalcdekccabDoorStructs
import Derived.Test.YtggnaalcdekccabDoorSee
import Derived.Laws.OwnMore
namespace Go.Proofs.YtggnaalcdekccabDoor
open Go.ChangeShapes Go.WideShapes Go.ChangeAt Go.RowKit
set_option linter.unusedVariables false
theorem infoWord : (Tryd.prog.info? 24).map (fun i => (i.zero, i.size, i.bytes)) = some (some (.int .u32 0), 1, 4) := by kernel_rfl
def zf (zs : List (List Int)) (i j : Nat) : Int := (zs.getD i []).getD j 0
def zok (zs : List (List Int)) (i : Nat) : Bool := okB (zf zs i 0) (zf zs i 1) (zf zs i 2) (zf zs i 3) (zf zs i 4)
def zw (zs : List (List Int)) (i : Nat) : Int := wordC (zf zs i 0) (zf zs i 1) (zf zs i 2) (zf zs i 3) (zf zs i 4)
def zws (zs : List (List Int)) (k : Nat) : List Value := (List.range k).map fun i => Value.int .u32 (zw zs i)
theorem zws_succ (zs : List (List Int)) (k : Nat) : zws zs (k + 1) = zws zs k ++ [.int .u32 (zw zs k)] := by simp [zws, List.range_succ]
theorem zws_at (zs : List (List Int)) (n k : Nat) (h : k < n) : (zws zs n)[k]? = some (.int .u32 (zw zs k)) := by simp [zws, h]
/-- Instructions that lie in memory from an address on. -/
def InsAt (w : World) (ad : Addr) (n : Nat) (zs : List (List Int)) : Prop := ad.block < w.heap.size ∧ ∀ i, i < n → w.cell? (ad.add (i * 5)) = some (.int .i64 (zf zs i 0)) ∧ w.cell? (ad.add (i * 5 + 1)) = some (.int .i64 (zf zs i 1)) ∧ w.cell? (ad.add (i * 5 + 2)) = some (.int .i64 (zf zs i 2)) ∧ w.cell? (ad.add (i * 5 + 3)) = some (.int .i64 (zf zs i 3)) ∧ w.cell? (ad.add (i * 5 + 4)) = some (.int .i64 (zf zs i 4))
theorem add_block (ad : Addr) (n : Nat) : (ad.add n).block = ad.block := by unfold Addr.add; split <;> rfl
theorem InsAt.below {w w' : World} {ad : Addr} {n : Nat} {zs : List (List Int)} (h : InsAt w ad n zs) (hb : Below w.heap.size w w') : InsAt w' ad n zs := by
  have e : ∀ k, w'.cell? (ad.add k) = w.cell? (ad.add k) := fun k => hb.cell (p := ad.add k) (by rw [add_block]; exact h.1)
  refine ⟨Nat.lt_of_lt_of_le h.1 hb.size, fun i hi => ?_⟩
  obtain ⟨h0, h1, h2, h3, h4⟩ := h.2 i hi
  exact ⟨(e _).trans h0, (e _).trans h1, (e _).trans h2, (e _).trans h3, (e _).trans h4⟩
/-- One of them, with letters. -/
def InAt (w : World) (e : Addr) (y0 y1 y2 y3 y4 : Int) : Prop := w.cell? e = some (.int .i64 y0) ∧ w.cell? ⟨e.block, e.off + 1, none⟩ = some (.int .i64 y1) ∧ w.cell? ⟨e.block, e.off + 2, none⟩ = some (.int .i64 y2) ∧ w.cell? ⟨e.block, e.off + 3, none⟩ = some (.int .i64 y3) ∧ w.cell? ⟨e.block, e.off + 4, none⟩ = some (.int .i64 y4)
theorem add_more (ad : Addr) (i j : Nat) : ad.add (i + (j + 1)) = ⟨(ad.add i).block, (ad.add i).off + (j + 1), none⟩ := by
  rw [← Go.Deep.add_add]
  rfl
theorem InsAt.in {w : World} {ad : Addr} {n : Nat} {zs : List (List Int)} (h : InsAt w ad n zs) (i : Nat) (hi : i < n) : InAt w (ad.add (i * 5)) (zf zs i 0) (zf zs i 1) (zf zs i 2) (zf zs i 3) (zf zs i 4) := by
  obtain ⟨h0, h1, h2, h3, h4⟩ := h.2 i hi
  rw [add_more ad (i * 5) 0] at h1
  rw [add_more ad (i * 5) 1] at h2
  rw [add_more ad (i * 5) 2] at h3
  rw [add_more ad (i * 5) 3] at h4
  exact ⟨h0, h1, h2, h3, h4⟩
theorem InsAt.one {w : World} {ad : Addr} {n : Nat} {zs : List (List Int)} (h : InsAt w ad n zs) (i : Nat) (hi : i < n) : ∃ y0 y1 y2 y3 y4, InAt w (ad.add (i * 5)) y0 y1 y2 y3 y4 ∧ Hid (okB y0 y1 y2 y3 y4 = zok zs i) ∧ Hid (wordC y0 y1 y2 y3 y4 = zw zs i) := ⟨_, _, _, _, _, h.in i hi, Lib.hid rfl, Lib.hid rfl⟩
theorem own_below {w w' : World} {B E s n : Nat} {v : Value} {xs : List Value} (h : w.ownsRow B E s v n xs) (hb : Below w.heap.size w w') : w'.ownsRow B E s v n xs := by
  refine ⟨h.1, ?_⟩
  rcases h.2 with hn | ⟨g, cap, cur, rfl, hB, hg, rest⟩
  · exact .inl hn
  · refine .inr ⟨g, cap, cur, rfl, hB, ?_, rest⟩
    rw [hb.block g ?_]
    · exact hg
    · rcases Nat.lt_or_ge g w.heap.size with h' | h'
      · exact h'
      · simp [Array.getElem?_eq_none h'] at hg
theorem own_grown {B : Nat} {w wr w1 : World} {row : Option Nat} {v : Value} {n : Nat} {xs : List Value} {E : TypeId} (hb : Below B w wr) (hB : B ≤ wr.heap.size) (hown : wr.ownsRow B E 1 v n xs) (hg : wr.grownBy w1 row) (hr : row = v.ownBlock ∨ row = none) : Below B w w1 := by
  refine hb.grown hg hB fun k hk => ?_
  rcases hr with rfl | rfl
  · rcases hown.2 with ⟨rfl, _⟩ | ⟨g, cap, cur, rfl, h1, _⟩
    · simp [Value.ownBlock] at hk
    · simp [Value.ownBlock] at hk; omega
  · cases hk
/-- VC below a block, not below the whole heap: what a growing row leaves. -/
theorem VC.grown {x y : Addr} {W w w' : World} (h : VC x y W w) (hb : Below W.heap.size W w') (hA : VC x y W W) : VC x y W w' := ⟨hb, hA.2.1.below hb, hA.2.2.below hb⟩
set_option maxRecDepth 100000 in
set_option maxHeartbeats 2000000 in
theorem words_ok (ad : Addr) (n cap : Nat) (zs : List (List Int)) (x y : Addr) (w : World) (hA : VC x y w w) (hI : InsAt w ad n zs) (hn : n ≤ 1000) (hok : Hid (∀ i, i < n → zok zs i = true)) :
    Calls Tryd.prog 19 #[.slice (some ad) n cap] w fun e w' => ∃ v', e = .returned (.tuple #[v', .nilIface]) ∧ w'.ownsRow w.heap.size 24 1 v' n (zws zs n) ∧ Below w.heap.size w w' := by
  obtain ⟨i0, hi, hz0, hz1, hz2⟩ := info_parts infoWord
  have HI := Lib.hid (⟨hi, hz0, hz1, hz2⟩ : Tryd.prog.info? 24 = some i0 ∧ i0.zero = some (.int .u32 0) ∧ i0.size = 1 ∧ i0.bytes = 4)
  clear hi hz0 hz1 hz2
  have HII := Lib.hid hI
  have HA := Lib.hid hA
  clear hI hA
  go_enter Tryd.func19, Tryd.ntmps19
  go_wp2_with fail
  go_loopw [4, 11] (fun v i wr => ∃ k : Nat, k ≤ n ∧ i = .int .i64 k ∧ wr.ownsRow w.heap.size 24 1 v k (zws zs k) ∧ VC x y w wr ∧ w.heap.size ≤ wr.heap.size) (fun _ i _ => n - (intOf i).toNat)
  case atStart => exact ⟨0, by omega, rfl, World.ownsRow_nil _ _ _ _, HA.out, Nat.le_refl _⟩
  case round =>
    obtain ⟨k, hk, rfl, hown, hV, hBr⟩ := hrel
    by_cases hlt : k < n
    · have hI' := HII.out.below hV.bel
      obtain ⟨y0, y1, y2, y3, y4, hin, hyo, hyw⟩ := hI'.one k hlt
      obtain ⟨c0, c1, c2, c3, c4⟩ := hin
      have HK : Hid (okB y0 y1 y2 y3 y4 = true) := Lib.hid (hyo.out.trans (hok.out k hlt))
      obtain ⟨l, hl⟩ : ∃ l, Hid (wordC y0 y1 y2 y3 y4 = l) := ⟨_, Lib.hid rfl⟩
      have HL := Lib.hid (hyw.out.symm.trans hl.out)
      have HO := Lib.hid hown
      have HV := Lib.hid hV
      clear hown hV hI' hyo hyw
      go_wp2_with (first | (go_at_call 10; (with_reducible refine (cword_ok y0 y1 y2 y3 y4 x y _ (HV.out.alloc _).code HK l hl).mono ?_); rintro e w2 ⟨rfl, hb⟩; have HV2 := Lib.hid ((HV.out.alloc _).step hb); have HO2 := Lib.hid (own_below (HO.out.alloc _) hb); have hz : w.heap.size ≤ w2.heap.size := Nat.le_trans hBr (by have := hb.size; simp at this; omega); clear hb) | (at_builtin; refine wpList_append_own _ rfl _ _ 46 rfl w.heap.size 24 i0 (.int .u32 0) 1 4 Tryd.underlying46 HI.out.1 HI.out.2.1 HI.out.2.2.1 HI.out.2.2.2 rfl (by decide) _ _ _ rfl (HO2.out.alloc _) ⟨w2.heap.size, 0, none⟩ 1 1 [.int .u32 l] rfl rfl ?c1 ?c2 ?c3 ?c4 ?c5 ?_))
      case c1 =>
        intro j u hj
        match j, hj with
        | 0, hj => simp at hj; subst hj; simp [Addr.add]
        | (j + 1), hj => simp at hj
      case c2 => intro u hu; simp at hu; subst hu; rfl
      case c3 => unfold maxLen; omega
      case c4 => omega
      case c5 => simp; omega
      intro v' w3 hown' hgrow' _
      have HB3 := Lib.hid (own_grown (HV2.out.bel.alloc hz _) (by simp; omega) (HO2.out.alloc _) hgrow' (.inl rfl))
      have hz3 : w.heap.size ≤ w3.heap.size := HB3.out.size
      have HO3 : Hid (w3.ownsRow w.heap.size 24 1 v' (k + 1) (zws zs (k + 1))) := Lib.hid (by rw [zws_succ, HL.out]; exact hown')
      have HV3 := Lib.hid (HV2.out.grown HB3.out HA.out)
      clear hown' hgrow' c0 c1 c2 c3 c4
      go_wp2
      go_roundw
      case rel => exact ⟨k + 1, by omega, by go_num, HO3.out, HV3.out, hz3⟩
      case measure => simp [intOf]; omega
    · obtain rfl : n = k := by omega
      have hdd : decide (n < n) = false := by simp
      have HO := Lib.hid hown
      have HV := Lib.hid hV
      clear hown hV
      go_wp2
      go_ret2
      exact ⟨_, rfl, HO.out, HV.out.bel⟩
theorem words_none (cap : Nat) (w : World) :
    Calls Tryd.prog 19 #[.slice none 0 cap] w fun e w' => e = .returned (.tuple #[.slice none 0 0, .nilIface]) ∧ Below w.heap.size w w' := by
  go_enter Tryd.func19, Tryd.ntmps19
  go_wp2_with fail
  go_loopw [4, 11] (fun v i wr => v = .slice none 0 0 ∧ i = .int .i64 0 ∧ wr = w) (fun _ _ _ => 0)
  case atStart => exact ⟨rfl, rfl, rfl⟩
  case round =>
    obtain ⟨rfl, rfl, rfl⟩ := hrel
    go_wp2
    go_ret2
    exact ⟨rfl, Below.refl _ _⟩
set_option maxRecDepth 100000 in
set_option maxHeartbeats 2000000 in
theorem words_bad (ad : Addr) (n cap : Nat) (zs : List (List Int)) (j : Nat) (hj : j < n) (x y z : Addr) (hz : Hid ((if decide (1 ≤ zf zs j 0 ∧ zf zs j 0 ≤ 13) = true then y else x) = z)) (w : World) (hA : VC x y w w) (hI : InsAt w ad n zs) (hn : n ≤ 1000) (hok : Hid (∀ i, i < j → zok zs i = true)) (hbad : Hid (zok zs j = false)) :
    Calls Tryd.prog 19 #[.slice (some ad) n cap] w fun e w' => ∃ p, e = .returned (.tuple #[.slice none 0 0, (Value.iface 66 (.pointer (some ⟨p, 0, none⟩)))]) ∧ p < w'.heap.size ∧ w'.cell? ⟨p, 0, none⟩ = some (.int .i64 j) ∧ w'.cell? ⟨p, 1, none⟩ = some (errC z) ∧ Below w.heap.size w w' := by
  obtain ⟨i0, hi, hz0, hz1, hz2⟩ := info_parts infoWord
  have HI := Lib.hid (⟨hi, hz0, hz1, hz2⟩ : Tryd.prog.info? 24 = some i0 ∧ i0.zero = some (.int .u32 0) ∧ i0.size = 1 ∧ i0.bytes = 4)
  clear hi hz0 hz1 hz2
  have HII := Lib.hid hI
  have HA := Lib.hid hA
  clear hI hA
  go_enter Tryd.func19, Tryd.ntmps19
  go_wp2_with fail
  go_loopw [4, 11] (fun v i wr => ∃ k : Nat, k ≤ j ∧ i = .int .i64 k ∧ wr.ownsRow w.heap.size 24 1 v k (zws zs k) ∧ VC x y w wr ∧ w.heap.size ≤ wr.heap.size) (fun _ i _ => n - (intOf i).toNat)
  case atStart => exact ⟨0, by omega, rfl, World.ownsRow_nil _ _ _ _, HA.out, Nat.le_refl _⟩
  case round =>
    obtain ⟨k, hk, rfl, hown, hV, hBr⟩ := hrel
    have hkn : k < n := by omega
    have hI' := HII.out.below hV.bel
    obtain ⟨y0, y1, y2, y3, y4, hin, hyo, hyw⟩ := hI'.one k hkn
    by_cases hlt : k < j
    · obtain ⟨c0, c1, c2, c3, c4⟩ := hin
      have HK : Hid (okB y0 y1 y2 y3 y4 = true) := Lib.hid (hyo.out.trans (hok.out k hlt))
      obtain ⟨l, hl⟩ : ∃ l, Hid (wordC y0 y1 y2 y3 y4 = l) := ⟨_, Lib.hid rfl⟩
      have HL := Lib.hid (hyw.out.symm.trans hl.out)
      have HO := Lib.hid hown
      have HV := Lib.hid hV
      clear hown hV hI' hyo hyw
      go_wp2_with (first | (go_at_call 10; (with_reducible refine (cword_ok y0 y1 y2 y3 y4 x y _ (HV.out.alloc _).code HK l hl).mono ?_); rintro e w2 ⟨rfl, hb⟩; have HV2 := Lib.hid ((HV.out.alloc _).step hb); have HO2 := Lib.hid (own_below (HO.out.alloc _) hb); have hz : w.heap.size ≤ w2.heap.size := Nat.le_trans hBr (by have := hb.size; simp at this; omega); clear hb) | (at_builtin; refine wpList_append_own _ rfl _ _ 46 rfl w.heap.size 24 i0 (.int .u32 0) 1 4 Tryd.underlying46 HI.out.1 HI.out.2.1 HI.out.2.2.1 HI.out.2.2.2 rfl (by decide) _ _ _ rfl (HO2.out.alloc _) ⟨w2.heap.size, 0, none⟩ 1 1 [.int .u32 l] rfl rfl ?c1 ?c2 ?c3 ?c4 ?c5 ?_))
      case c1 =>
        intro j u hj
        match j, hj with
        | 0, hj => simp at hj; subst hj; simp [Addr.add]
        | (j + 1), hj => simp at hj
      case c2 => intro u hu; simp at hu; subst hu; rfl
      case c3 => unfold maxLen; omega
      case c4 => omega
      case c5 => simp; omega
      intro v' w3 hown' hgrow' _
      have HB3 := Lib.hid (own_grown (HV2.out.bel.alloc hz _) (by simp; omega) (HO2.out.alloc _) hgrow' (.inl rfl))
      have hz3 : w.heap.size ≤ w3.heap.size := HB3.out.size
      have HO3 : Hid (w3.ownsRow w.heap.size 24 1 v' (k + 1) (zws zs (k + 1))) := Lib.hid (by rw [zws_succ, HL.out]; exact hown')
      have HV3 := Lib.hid (HV2.out.grown HB3.out HA.out)
      clear hown' hgrow' c0 c1 c2 c3 c4
      go_wp2
      go_roundw
      case rel => exact ⟨k + 1, by omega, by go_num, HO3.out, HV3.out, hz3⟩
      case measure => simp [intOf]; omega
    · obtain rfl : j = k := by omega
      obtain ⟨c0, c1, c2, c3, c4⟩ := hI'.in j hkn
      have HK : Hid (okB (zf zs j 0) (zf zs j 1) (zf zs j 2) (zf zs j 3) (zf zs j 4) = false) := hbad
      generalize zf zs j 0 = y0, zf zs j 1 = y1, zf zs j 2 = y2, zf zs j 3 = y3, zf zs j 4 = y4 at *
      have HV := Lib.hid hV
      clear hown hV hI' hin hyo hyw
      go_wp2_with (first | (go_at_call 10; (with_reducible refine (cword_no y0 y1 y2 y3 y4 x y _ (HV.out.alloc _).code z hz HK).mono ?_); rintro e w2 ⟨rfl, hb⟩; have HV2 := Lib.hid ((HV.out.alloc _).step hb); have hz : w.heap.size ≤ w2.heap.size := Nat.le_trans hBr (by have := hb.size; simp at this; omega); clear hb))
      go_ret2
      exact ⟨_, rfl, by simp, by simp, by simp, HV2.out.bel.alloc hz _⟩
end Go.Proofs.YtggnaalcdekccabDoor
