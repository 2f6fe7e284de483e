/-
  package meter: End of a meter that is there.
-/
import Derived.Test.YtlefmgdfcpnifaaDoorMt6
namespace Go.Proofs.YtlefmgdfcpnifaaDoor
open Go.ChangeShapes Go.WideShapes Go.ChangeAt Go.RowKit
set_option linter.unusedVariables false
/-- Does e stand in the chain of i, one of the first u? -/
def inC (pr : Nat → Int) (e u : Nat) (i : Nat) : Bool := decide (i < u) && decide ((e : Int) ∈ chF pr (i + 1) i)
/-- Those of the first k in whose chain e stands. -/
def NL (pr : Nat → Int) (e u k : Nat) : List Nat := (List.range k).filter (inC pr e u)
def iz (l : List Nat) : List Int := l.map (fun q : Nat => (q : Int))
theorem NL_yes {pr : Nat → Int} {e u k : Nat} (h : inC pr e u k = true) : NL pr e u (k + 1) = NL pr e u k ++ [k] := by simp [NL, List.range_succ, h]
theorem NL_no {pr : Nat → Int} {e u k : Nat} (h : inC pr e u k = false) : NL pr e u (k + 1) = NL pr e u k := by simp [NL, List.range_succ, h]
theorem NL_mem {pr : Nat → Int} {e u k i : Nat} : i ∈ NL pr e u k ↔ i < k ∧ inC pr e u i = true := by simp [NL]
theorem NL_len (pr : Nat → Int) (e u k : Nat) : (NL pr e u k).length ≤ k := by
  unfold NL
  have h := List.length_filter_le (inC pr e u) (List.range k)
  simpa using h
theorem NL_apart (pr : Nat → Int) (e u k : Nat) : (NL pr e u k).Pairwise (· ≠ ·) := by
  unfold NL
  exact List.Pairwise.filter _ (List.nodup_range (n := k))
theorem NL_not (pr : Nat → Int) (e u k m q : Nat) (h : (NL pr e u k)[m]? = some q) : q ∉ (NL pr e u k).take m := by
  intro hm
  obtain ⟨hlt, hq⟩ := List.getElem?_eq_some_iff.1 h
  obtain ⟨i, hi, he⟩ := List.mem_take_iff_getElem.1 hm
  have := List.pairwise_iff_getElem.1 (NL_apart pr e u k) i m (by omega) hlt (by omega)
  exact this (by rw [he, hq])
theorem chF_len (pr : Nat → Int) : ∀ (f : Nat) (x : Int), (chF pr f x).length ≤ f := by
  intro f
  induction f with
  | zero => intro x; simp [chF]
  | succ f ih =>
    intro x
    unfold chF
    by_cases h : x < 0
    · rw [if_pos h]; simp
    · rw [if_neg h]; have := ih (pr x.toNat); simp; omega
theorem rn_own {w : World} {base t g d c' : Nat} {xs : List Int} (h : w.ownsRow base t 1 (.slice (some ⟨g, 0, none⟩) d c') d (xs.map (Value.int .i64))) (hl : xs.length = d) : RN w g d xs := by
  intro i hi
  rw [h.cellAt i (by omega), List.getElem?_map]
  simp [List.getD, show i < xs.length by omega]
theorem getD_mem (xs : List Int) (d : Nat) (hl : xs.length = d) (v : Int) : (∃ i, i < d ∧ xs.getD i 0 = v) ↔ v ∈ xs := by
  constructor
  · rintro ⟨i, hi, h⟩
    rw [show xs.getD i 0 = xs[i]'(by omega) by simp [List.getD, show i < xs.length by omega]] at h
    rw [← h]
    exact List.getElem_mem _
  · intro h
    obtain ⟨i, hi, h⟩ := List.mem_iff_getElem.1 h
    exact ⟨i, by omega, by simp [List.getD, hi, h]⟩
def thA (th : Nat → Bool) (l : List Nat) (m : Nat) : Nat → Bool := fun i => th i && !decide (i ∈ l.take m)
def vrA (l : List Nat) (m : Nat) : Nat → Int := fun i => if i ∈ l.take m then 1 else 0
theorem take_one {l : List Nat} {m q : Nat} (h : l[m]? = some q) : l.take (m + 1) = l.take m ++ [q] := by
  rw [List.take_add_one, h]; rfl
theorem thA_next {th : Nat → Bool} {l : List Nat} {m q : Nat} (h : l[m]? = some q) : upd (thA th l m) q false = thA th l (m + 1) := by
  funext i
  unfold upd thA
  rw [take_one h]
  by_cases e : i = q <;> simp [e]
theorem vrA_next {l : List Nat} {m q : Nat} (h : l[m]? = some q) : upd (vrA l m) q 1 = vrA l (m + 1) := by
  funext i
  unfold upd vrA
  rw [take_one h]
  by_cases e : i = q <;> simp [e]
/-- Does b say whether v is among the first d? -/
def ConB (xs : List Int) (d : Nat) (v : Int) (b : Bool) : Prop := (b = true) ↔ ∃ i, i < d ∧ xs.getD i 0 = v
theorem scon_b (g d c' : Nat) (xs : List Int) (v : Int) (hd : d ≤ 1000) (b : Bool) (hb : Hid (ConB xs d v b)) (w : World) (hr : RN w g d xs) :
    Calls Tryd.prog 68 #[.slice (some ⟨g, 0, none⟩) d c', .int .i64 v] w fun e w' => e = .returned (.bool b) ∧ w = w' := scon_is g d c' xs v hd b hb w hr
theorem inC_out {pr : Nat → Int} {e u k : Nat} (h : u ≤ k) : inC pr e u k = false := by unfold inC; rw [decide_eq_false (by omega), Bool.false_and]
set_option maxRecDepth 100000 in
set_option maxHeartbeats 4000000 in
theorem mend_ok {base P p B G n c : Nat} {th : Nat → Bool} {pr tk : Nat → Int} (u x : Nat) (hu : Hid (u ≤ n)) (hn : n ≤ 100) (hx : x < u) (hth : Hid (∀ i, i < u → th i = true)) (hno : Hid (∀ i, u ≤ i → i < n → th i = false)) (hpr : Hid (∀ i, i < u → -1 ≤ pr i ∧ pr i < (i : Int))) (w : World) (h : MtAt w base P p B G n c th (fun _ => 0) pr tk) :
    Calls Tryd.prog 51 #[.pointer (some ⟨P, 0, none⟩), .int .i64 x] w fun e w' => e = .returned .nilIface ∧ MtAt w' base P p B G n c (fun i => th i && !inC pr x u i) (fun i => if inC pr x u i then 1 else 0) pr tk ∧ PBelow w w' B G := by
  have H := Lib.hid h
  have f0 := h.f0
  have f1 := h.f1
  obtain ⟨i0, hi, hz0, hz1, hz2⟩ := info_parts infoIntM
  have HI := Lib.hid (⟨hi, hz0, hz1, hz2⟩ : Tryd.prog.info? 3 = some i0 ∧ i0.zero = some (.int .i64 0) ∧ i0.size = 1 ∧ i0.bytes = 8)
  have HTx := Lib.hid (hth.out x hx)
  have hxn : x < n := by have := hu.out; omega
  have hBl : Hid (B < w.heap.size) := Lib.hid h.ar.lt.2
  clear h hi hz0 hz1 hz2
  go_enter Tryd.func51, Tryd.ntmps51
  go_wp2_with (first
    | (go_at_call 23; (with_reducible refine (athere_in x hxn true HTx _ H.out.ar).mono ?_); rintro e w1 ⟨rfl, rfl⟩))
  go_loopw [5, 22] (fun v i wr => ∃ k : Nat, k ≤ n ∧ i = .int .i64 k ∧ wr.ownsRow w.heap.size 3 1 v (NL pr x u k).length ((iz (NL pr x u k)).map (Value.int .i64)) ∧ Below w.heap.size w wr) (fun _ i _ => n - (intOf i).toNat)
  case atStart => exact ⟨0, by omega, rfl, World.ownsRow_nil _ _ _ _, Below.refl _ _⟩
  case round =>
    obtain ⟨k, hk, rfl, hown, hbel⟩ := hrel
    have HW := Lib.hid hown
    have HL := Lib.hid hbel
    have HM := Lib.hid (H.out.below hbel)
    obtain ⟨nl, HNL⟩ : ∃ nl, Hid ((NL pr x u k).length = nl) := ⟨_, Lib.hid rfl⟩
    have hnl : nl ≤ k := by have := HNL.out; have := NL_len pr x u k; omega
    rw [HNL.out] at HW
    clear hown hbel f0 f1
    by_cases hlt : k < n
    · have k0 : (0 : Int) ≤ k := by omega
      have k1 : (k : Int) < n := by omega
      by_cases hku : k < u
      · have HTk : Hid (∀ i, i ≤ k → th i = true) := Lib.hid (fun i hi => hth.out i (by omega))
        have HPk : Hid (∀ i, i ≤ k → -1 ≤ pr i ∧ pr i < (i : Int)) := Lib.hid (fun i hi => hpr.out i (by omega))
        obtain ⟨d, HD⟩ : ∃ d, Hid ((chF pr (k + 1) k).length = d) := ⟨_, Lib.hid rfl⟩
        have hd : d ≤ k + 1 := by rw [← HD.out]; exact chF_len pr (k + 1) k
        by_cases hc : inC pr x u k = true
        · have HC := Lib.hid hc
          have HB : Hid (ConB (chF pr (k + 1) k) d x true) := Lib.hid (by
            unfold ConB
            rw [getD_mem _ _ HD.out]
            have h := HC.out
            unfold inC at h
            simp only [Bool.and_eq_true, decide_eq_true_eq] at h
            simp [h.2])
          clear hc
          go_wp2_with (first
            | (go_at_call 67; (with_reducible refine (chain_gsl k d HD hlt HTk HPk _ HM.out).mono ?_); rintro e w1 ⟨g, c', rfl, hr, hb⟩; have HL1 := Lib.hid (HL.out.trans (hb.mono HL.out.size)); have HW1 := Lib.hid (own_below HW.out hb); have HR1 := Lib.hid (rn_own hr HD.out); clear hr hb)
            | (go_at_call 68; (with_reducible refine (scon_b g d c' _ (x : Int) (by omega) true HB _ HR1.out).mono ?_); rintro e w2 ⟨rfl, rfl⟩)
            | (at_builtin; refine wpList_append_own _ rfl _ _ 22 rfl w.heap.size 3 i0 (.int .i64 0) 1 8 Tryd.underlying22 HI.out.1 HI.out.2.1 HI.out.2.2.1 HI.out.2.2.2 rfl (by decide) _ _ _ rfl (HW1.out.alloc _) ⟨w1.heap.size, 0, none⟩ 1 1 [.int .i64 k] rfl rfl (cell_one_new _ _ _) (ints_oneCell .i64 [(k : Int)]) (by unfold maxLen; omega) (by omega) (by have := HL1.out.size; simp; omega) ?_; intro v' w2 hown' hgrow' _; have HB2 : Hid (Below w.heap.size w w2) := Lib.hid ((HL1.out.alloc HL1.out.size _).grown hgrow' (by have := HL1.out.size; simp; omega) (fun g hg => (HW1.out.lt g hg).1)); have HO2 : Hid (w2.ownsRow w.heap.size 3 1 v' (NL pr x u (k + 1)).length ((iz (NL pr x u (k + 1))).map (Value.int .i64))) := Lib.hid (by rw [NL_yes HC.out]; unfold iz at hown' ⊢; rw [List.map_append, List.map_append, List.length_append, HNL.out]; exact hown'); clear hown' hgrow'))
          go_roundw
          case rel => exact ⟨k + 1, by omega, by go_num, HO2.out, HB2.out⟩
          case measure => simp [intOf]; omega
        · have HC := Lib.hid (Bool.eq_false_iff.2 hc)
          have HB : Hid (ConB (chF pr (k + 1) k) d x false) := Lib.hid (by
            unfold ConB
            rw [getD_mem _ _ HD.out]
            have h := HC.out
            unfold inC at h
            rw [decide_eq_true hku, Bool.true_and, decide_eq_false_iff_not] at h
            simp [h])
          clear hc
          go_wp2_with (first
            | (go_at_call 67; (with_reducible refine (chain_gsl k d HD hlt HTk HPk _ HM.out).mono ?_); rintro e w1 ⟨g, c', rfl, hr, hb⟩; have HL1 := Lib.hid (HL.out.trans (hb.mono HL.out.size)); have HW1 := Lib.hid (own_below HW.out hb); have HR1 := Lib.hid (rn_own hr HD.out); clear hr hb)
            | (go_at_call 68; (with_reducible refine (scon_b g d c' _ (x : Int) (by omega) false HB _ HR1.out).mono ?_); rintro e w2 ⟨rfl, rfl⟩))
          go_roundw
          case rel => exact ⟨k + 1, by omega, by go_num, by rw [NL_no HC.out, HNL.out]; exact HW1.out, HL1.out⟩
          case measure => simp [intOf]; omega
      · have HT := Lib.hid (hno.out k (by omega) hlt)
        have HC : Hid (inC pr x u k = false) := Lib.hid (inC_out (by omega))
        go_wp2_with (first
          | (go_at_call 67; (with_reducible refine (chain_absent k hlt HT _ HM.out).mono ?_); rintro e w1 ⟨rfl, rfl⟩)
          | (go_at_call 68; (with_reducible refine (scon_nil (x : Int) _).mono ?_); rintro e w2 ⟨rfl, rfl⟩))
        go_roundw
        case rel => exact ⟨k + 1, by omega, by go_num, by rw [NL_no HC.out, HNL.out]; exact HW.out, HL.out⟩
        case measure => simp [intOf]; omega
    · obtain rfl : k = n := by omega
      have hpos : 0 < nl := by
        rw [← HNL.out]
        refine List.length_pos_of_mem (NL_mem.2 ⟨hxn, ?_⟩ : x ∈ NL pr x u k)
        unfold inC chF
        rw [if_neg (by omega)]
        simp [hx]
      obtain ⟨g, c', rfl⟩ := own_sl HW.out hpos
      have hgB : g ≠ B := by have := (HW.out.lt g rfl).1; have := hBl.out; omega
      have HM0 : Hid (MtAt wr base P p B G k c (thA th (NL pr x u k) 0) (vrA (NL pr x u k) 0) pr tk) := Lib.hid (HM.out.congr (fun i _ => by simp [thA]) (fun i _ => by simp [vrA]) (fun _ _ => rfl) (fun _ _ => rfl))
      have HP0 : Hid (PBelow w wr B G) := Lib.hid (PBelow.of_below HL.out)
      clear hpos
      go_wp2_with fail
      go_loopw [37] (fun i wx => ∃ m : Nat, m ≤ nl ∧ i = .int .i64 m ∧ MtAt wx base P p B G k c (thA th (NL pr x u k) m) (vrA (NL pr x u k) m) pr tk ∧ wx.ownsRow w.heap.size 3 1 (.slice (some ⟨g, 0, none⟩) nl c') nl ((iz (NL pr x u k)).map (Value.int .i64)) ∧ PBelow w wx B G) (fun i _ => nl - (intOf i).toNat)
      case atStart => exact ⟨0, by omega, rfl, HM0.out, HW.out, HP0.out⟩
      case round =>
        obtain ⟨m, hm, rfl, hM, hR, hP⟩ := hrel
        have HMm := Lib.hid hM
        have HRm := Lib.hid hR
        have HPm := Lib.hid hP
        clear hM hR hP
        by_cases hml : m < nl
        · obtain ⟨q, HQ⟩ : ∃ q, Hid ((NL pr x u k)[m]? = some q) := by
            have hl : m < (NL pr x u k).length := by rw [HNL.out]; exact hml
            exact ⟨_, Lib.hid (List.getElem?_eq_getElem hl)⟩
          have cc : wr.cell? ⟨g, m, none⟩ = some (.int .i64 q) := by
            rw [HRm.out.cellAt m (by omega), List.getElem?_map]
            unfold iz
            rw [List.getElem?_map, HQ.out]
            rfl
          have hqm : q ∈ NL pr x u k := List.mem_of_getElem? HQ.out
          have hqk : q < k := (NL_mem.1 hqm).1
          have hqu : q < u := by
            have h := (NL_mem.1 hqm).2
            unfold inC at h
            simp only [Bool.and_eq_true, decide_eq_true_eq] at h
            exact h.1
          have hq1 := NL_not _ _ _ _ _ _ HQ.out
          have HTq : Hid (thA th (NL pr x u k) m q = true) := Lib.hid (by unfold thA; rw [hth.out q hqu]; simp [hq1])
          have HVq : Hid (vrA (NL pr x u k) m q = 0) := Lib.hid (by unfold vrA; rw [if_neg hq1])
          have m0 : (0 : Int) ≤ m := by omega
          have m1 : (m : Int) < nl := by omega
          have f0 := HMm.out.f0
          clear hqm hq1
          go_wp2_with (first
            | (go_at_call 20; (with_reducible refine (agive_at (q : Int) _ HMm.out.ar q (Lib.hid rfl) hqk HTq 0 1 HVq (by decide) (by decide) (Lib.hid (by decide))).mono ?_); rintro e w7 ⟨rfl, hA2, hg⟩; rw [thA_next HQ.out, vrA_next HQ.out] at hA2; have HM7 := Lib.hid (HMm.out.turn hA2 hg); have HR7 := Lib.hid (HRm.out.kept hg (.inr (fun e => hgB (by simpa [Value.ownBlock] using e)))); have HP7 := Lib.hid (HPm.out.trans (PBelow.of (G := G) hg (.inl rfl))); clear hA2 hg))
          go_roundw
          case rel => exact ⟨m + 1, by omega, by go_num, HM7.out, HR7.out, HP7.out⟩
          case measure => simp [intOf]; omega
        · obtain rfl : m = nl := by omega
          have HF : Hid (MtAt wr base P p B G k c (fun i => th i && !inC pr x u i) (fun i => if inC pr x u i then 1 else 0) pr tk) := Lib.hid (HMm.out.congr
            (fun i hi => by
              unfold thA
              rw [← HNL.out, List.take_length]
              have e : decide (i ∈ NL pr x u k) = inC pr x u i := by
                rw [Bool.eq_iff_iff, decide_eq_true_eq, NL_mem]
                simp [hi]
              rw [e])
            (fun i hi => by
              unfold vrA
              rw [← HNL.out, List.take_length]
              have e : (i ∈ NL pr x u k) ↔ inC pr x u i = true := by
                rw [NL_mem]
                simp [hi]
              simp [e])
            (fun _ _ => rfl) (fun _ _ => rfl))
          go_wp2_with fail
          go_ret
          exact ⟨rfl, HF.out, HPm.out⟩
theorem mend_no {base P p B G n c : Nat} {th : Nat → Bool} {vr pr tk : Nat → Int} (k : Nat) (hk : k < n) (ht : Hid (th k = false)) (v : Value) (w : World) (hE : w.cell? ⟨2, 0, none⟩ = some v) (h : MtAt w base P p B G n c th vr pr tk) :
    Calls Tryd.prog 51 #[.pointer (some ⟨P, 0, none⟩), .int .i64 k] w fun e w' => e = .returned v ∧ w = w' := by
  have H := Lib.hid h
  have f0 := h.f0
  clear h
  go_enter Tryd.func51, Tryd.ntmps51
  go_wp2_with (first | (go_at_call 23; (with_reducible refine (athere_in k hk false ht _ H.out.ar).mono ?_); rintro e w1 ⟨rfl, rfl⟩))
  go_ret
  exact ⟨rfl, rfl⟩
end Go.Proofs.YtlefmgdfcpnifaaDoor
