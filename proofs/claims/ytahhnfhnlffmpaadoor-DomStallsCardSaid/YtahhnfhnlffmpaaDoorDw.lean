/-
  DomStalls.
-/
import Derived.Test.YtahhnfhnlffmpaaDoorSv
import Derived.Test.YtahhnfhnlffmpaaDoorDf
namespace Go.Proofs.YtahhnfhnlffmpaaDoor.V
open Go.ChangeShapes Go.WideShapes Go.ChangeAt Go.RowKit Go.Maps
set_option linter.unusedVariables false
set_option linter.unusedSimpArgs false
theorem number_is (n m r : Int) (hm0 : 0 < m) (hm : m ≤ 1000) (h1 : -9223372036854775808 ≤ n) (h2 : n ≤ 9223372036854775807) (hr : Hid (n % m = r)) (w : World) :
    Calls Tryd.prog 26 #[.int .i64 n, .int .i64 m] w fun e w' => e = .returned (.int .i64 r) ∧ w = w' := by
  have e0 := Int.emod_nonneg n (show m ≠ 0 by omega)
  have e1 := Int.emod_lt_of_pos n hm0
  by_cases hn : 0 ≤ n
  · have hd : decide (n % m < 0) = false := decide_eq_false (by omega)
    have hm1 : 1 ≤ m := by omega
    go_enter Tryd.func26, Tryd.ntmps26
    go_wp2
    go_ret
    exact ⟨ret_i64 hr.out, rfl⟩
  · have ht := Int.tmod_eq_emod (a := n) (b := m)
    have hm1 : 1 ≤ m := by omega
    by_cases hdv : m ∣ n
    · rw [if_pos (Or.inr hdv)] at ht
      have hz := Int.emod_eq_zero_of_dvd hdv
      have ht2 : n.tmod m = 0 := by omega
      have hr0 : Hid (0 = r) := Lib.hid (by rw [← hr.out, hz])
      clear ht hz hdv e0 e1
      go_enter Tryd.func26, Tryd.ntmps26
      go_wp2
      go_ret
      exact ⟨ret_i64 hr0.out, rfl⟩
    · rw [if_neg (by omega)] at ht
      have hnz : n % m ≠ 0 := fun e => hdv (Int.dvd_of_emod_eq_zero e)
      obtain ⟨t, ht2⟩ : ∃ t, n.tmod m = t := ⟨_, rfl⟩
      have hab : (m.natAbs : Int) = m := by omega
      have hlt : t < 0 := by omega
      have hge : -1000 ≤ t := by omega
      have hr0 : Hid (t + m = r) := Lib.hid (by rw [← hr.out]; omega)
      have hd : decide (t < 0) = true := decide_eq_true hlt
      clear ht hdv e0 e1 hnz hab
      go_enter Tryd.func26, Tryd.ntmps26
      go_wp2
      go_ret
      exact ⟨ret_i64 hr0.out, rfl⟩
theorem number_nat (n m : Int) (M : Nat) (hm : m = (M : Int)) (hm0 : 0 < M) (hm1 : M ≤ 1000) (h1 : -9223372036854775808 ≤ n) (h2 : n ≤ 9223372036854775807) : ∃ r : Nat, r < M ∧ ∀ w, Calls Tryd.prog 26 #[.int .i64 n, .int .i64 m] w fun e w' => e = .returned (.int .i64 r) ∧ w = w' := by
  have e0 := Int.emod_nonneg n (show m ≠ 0 by omega)
  have e1 := Int.emod_lt_of_pos n (show 0 < m by omega)
  refine ⟨(n % m).toNat, by omega, fun w => ?_⟩
  exact number_is n m _ (by omega) (by omega) h1 h2 (Lib.hid (by omega)) w
/-- Who waits for a, by the law's own reckoning: the order in which they came, and for whom each waits. -/
def wt (f : Int → Int) (ord : List Int) (a : Int) : List Int := ord.filter (fun x => decide (f x = a))
def updF (f : Int → Int) (y a : Int) : Int → Int := fun x => if x = y then a else f x
/-- The law's reckoning is a right one. -/
structure Rk (f : Int → Int) (ord : List Int) : Prop where
  nd : ord.Nodup
  lo : ∀ x ∈ ord, 0 ≤ x ∧ x < 6
  of : ∀ x, 0 ≤ x → x < 6 → f x = -1 ∨ (0 ≤ f x ∧ f x < 6 ∧ x ∈ ord)
theorem Rk.has {f : Int → Int} {ord : List Int} (h : Rk f ord) (a y : Int) (ha : 0 ≤ a) (y0 : 0 ≤ y) (y1 : y < 6) : (wt f ord a).contains y = decide (f y = a) := by
  by_cases e : f y = a
  · rw [decide_eq_true e, List.contains_iff_mem]
    rcases h.of y y0 y1 with h1 | h1
    · omega
    · exact List.mem_filter.2 ⟨h1.2.2, by simp [e]⟩
  · rw [decide_eq_false e, ← Bool.not_eq_true, List.contains_iff_mem]
    intro hm
    have := (List.mem_filter.1 hm).2
    simp at this
    exact e this
theorem offI_wt (f : Int → Int) (ord : List Int) (y a i : Int) : offI (wt f ord i) y = wt (updF f y a) (offI ord y) i := by
  unfold offI wt
  rw [List.filter_filter, List.filter_filter]
  apply List.filter_congr
  intro x _
  unfold updF
  by_cases e : x = y
  · simp [e]
  · simp [e]
theorem wt_snoc (f : Int → Int) (ord : List Int) (y i : Int) : wt f (ord ++ [y]) i = wt f ord i ++ (if f y = i then [y] else []) := by
  unfold wt
  rw [List.filter_append]
  congr 1
  by_cases e : f y = i <;> simp [e]
/-- One more waits. -/
theorem stall_wt (f : Int → Int) (ord : List Int) (y : Int) (a n i : Nat) (hi : i < n) : stallL (fun i : Nat => wt f ord (i : Int)) n a y i = wt (updF f y (a : Int)) (offI ord y ++ [y]) (i : Int) := by
  rw [wt_snoc, ← offI_wt]
  have e : updF f y (a : Int) y = a := by simp [updF]
  rw [e]
  unfold stallL updN offK
  by_cases h : i = a
  · subst h; simp
  · rw [if_neg h, if_pos hi, if_neg (by omega), List.append_nil]
theorem Rk.stall {f : Int → Int} {ord : List Int} (h : Rk f ord) (y a : Int) (a0 : 0 ≤ a) (a1 : a < 6) (y0 : 0 ≤ y) (y1 : y < 6) : Rk (updF f y a) (offI ord y ++ [y]) := by
  refine ⟨?_, fun x hx => ?_, fun x x0 x1 => ?_⟩
  · rw [List.nodup_append]
    refine ⟨h.nd.sublist List.filter_sublist, by simp, fun u hu v hv => ?_⟩
    simp at hv
    rw [hv]
    intro e
    rw [e] at hu
    have := offI_not ord y
    rw [← Bool.not_eq_true, List.contains_iff_mem] at this
    exact this hu
  · rcases List.mem_append.1 hx with hx | hx
    · exact h.lo x (List.mem_filter.1 hx).1
    · simp at hx; omega
  · by_cases e : x = y
    · subst e
      exact .inr ⟨by simp [updF]; omega, by simp [updF]; omega, by simp⟩
    · rcases h.of x x0 x1 with h1 | ⟨h1, h2, h3⟩
      · exact .inl (by simp [updF, e, h1])
      · refine .inr ⟨by simp [updF, e, h1], by simp [updF, e, h2], List.mem_append.2 (.inl ?_)⟩
        unfold offI
        exact List.mem_filter.2 ⟨h3, by simp [e]⟩
theorem QS.congr {w : World} {base Q n b : Nat} {L L' : Nat → List Int} {S : Nat → Nat → Prop} (h : QS w base Q n b L S) (he : ∀ i, i < n → L i = L' i) : QS w base Q n b L' S := ⟨fun i hi => by rw [← he i hi]; exact h.q i hi, h.ap⟩
/-- The law's state: the domains, the places of those waited for at block F, the order as a row. -/
structure LS (W0 w : World) (base P p B Q c : Nat) (th : Nat → Bool) (vr_ : Nat → Int) (base2 b F : Nat) (S : Nat → Nat → Prop) (f : Int → Int) (ord : List Int) (vo : Value) : Prop where
  dv : DvAt w base P p B Q 6 c th vr_ base2 b (fun i => wt f ord (i : Int)) S
  bel : Below W0.heap.size W0 w
  of : ∀ j : Nat, j < 6 → w.cell? ⟨F, j, none⟩ = some (.int .i64 (f (j : Int))) ∧ w.frozen? ⟨F, j, none⟩ = false
  row : w.ownsRow base2 3 1 vo ord.length (ord.map (Value.int .i64))
  rk : Rk f ord
  fl : F < base2 ∧ F ≠ Q ∧ F ≠ P ∧ F ≠ p ∧ F ≠ B
  lo : W0.heap.size ≤ F ∧ W0.heap.size ≤ Q
  ap : ∀ g, vo.ownBlock = some g → ¬ QB Q 6 S g
section
variable {W0 w w' : World} {base P p B Q c base2 b b' F : Nat} {th : Nat → Bool} {vr_ : Nat → Int} {S S' : Nat → Nat → Prop} {f : Int → Int} {ord : List Int} {vo vo' : Value}
theorem LS.below (h : LS W0 w base P p B Q c th vr_ base2 b F S f ord vo) (hb : Below w.heap.size w w') : LS W0 w' base P p B Q c th vr_ base2 b F S f ord vo := by
  have hs := h.dv.sz
  have hF : F < w.heap.size := by have := h.fl.1; omega
  exact ⟨h.dv.below hb, h.bel.trans (hb.mono h.bel.size), fun j hj => ⟨(hb.cell (p := ⟨F, j, none⟩) hF).trans (h.of j hj).1, (hb.frozen (p := ⟨F, j, none⟩) hF).trans (h.of j hj).2⟩, own_below h.row hb, h.rk, h.fl, h.lo, h.ap⟩
theorem LS.notQ (h : LS W0 w base P p B Q c th vr_ base2 b F S f ord vo) : ¬ QB Q 6 S F := fun hs => by
  have := h.fl
  rcases h.dv.qs.lo F hs with e | e
  · exact this.2.1 e
  · omega
/-- The domains went on, the law's reckoning not yet. -/
theorem LS.turn (h : LS W0 w base P p B Q c th vr_ base2 b F S f ord vo) {L' : Nat → List Int} (hv : DvAt w' base P p B Q 6 c th vr_ base2 b' L' S') (hf : DFr w w' (QB Q 6 S) (QB Q 6 S')) :
    Below W0.heap.size W0 w' ∧ (∀ j : Nat, j < 6 → w'.cell? ⟨F, j, none⟩ = some (.int .i64 (f (j : Int))) ∧ w'.frozen? ⟨F, j, none⟩ = false) ∧ w'.ownsRow base2 3 1 vo ord.length (ord.map (Value.int .i64)) ∧ (∀ g, vo.ownBlock = some g → ¬ QB Q 6 S' g) := by
  have hs := h.dv.sz
  have hfl := h.fl
  have hlo := h.lo
  have hF : F < w.heap.size := by omega
  have hB := (hf.block F hF h.notQ).1
  refine ⟨h.bel.trans (hf.below (fun k hk => ?_) h.bel.size), fun j hj => ⟨(World.cell?_of_block (a := ⟨F, j, none⟩) hB).trans (h.of j hj).1, (World.frozen?_of_block (a := ⟨F, j, none⟩) hB).trans (h.of j hj).2⟩, own_same h.row (fun g hg => (hf.block g (h.row.lt g hg).2 (h.ap g hg)).1), fun g hg => (hf.block g (h.row.lt g hg).2 (h.ap g hg)).2⟩
  rcases h.dv.qs.lo k hk with e | e <;> omega
end
theorem of_set {w : World} {F : Nat} {f : Int → Int} (h : ∀ j : Nat, j < 6 → w.cell? ⟨F, j, none⟩ = some (.int .i64 (f (j : Int))) ∧ w.frozen? ⟨F, j, none⟩ = false) (y : Nat) (hy : y < 6) (a : Int) : ∀ j : Nat, j < 6 → (w.setCell ⟨F, y, none⟩ (.int .i64 a)).cell? ⟨F, j, none⟩ = some (.int .i64 (updF f (y : Int) a (j : Int))) ∧ (w.setCell ⟨F, y, none⟩ (.int .i64 a)).frozen? ⟨F, j, none⟩ = false := fun j hj => by
  refine ⟨?_, fz_set.trans (h j hj).2⟩
  by_cases e : j = y
  · subst e
    rw [cs_same (h j hj).1]
    simp [updF]
  · rw [cs_other (addr_ne F e), (h j hj).1]
    simp [updF, show ¬ ((j : Int) = (y : Int)) by omega]
/-- The domains, with a write to block F beside them. -/
theorem DvAt.beside {w : World} {base P p B Q n c base2 b : Nat} {th : Nat → Bool} {vr_ : Nat → Int} {L : Nat → List Int} {S : Nat → Nat → Prop} (h : DvAt w base P p B Q n c th vr_ base2 b L S) (F y : Nat) (u : Value) (h1 : F ≠ P) (h2 : F ≠ p) (h3 : F ≠ B) (h4 : ¬ QB Q n S F) : DvAt (w.setCell ⟨F, y, none⟩ u) base P p B Q n c th vr_ base2 b L S := by
  have hg := grown_cell w F y u
  have hl := h.lt
  have hs := h.sz
  have hk : ∀ k, k < w.heap.size → k ≠ F → (w.setCell ⟨F, y, none⟩ u).heap[k]? = w.heap[k]? := fun k hk hn => hg.block k hk (fun e => hn (by injection e))
  exact ⟨(World.cell?_of_block (a := ⟨P, 0, none⟩) (hk P (by omega) (fun e => h1 e.symm))).trans h.f0, (World.cell?_of_block (a := ⟨P, 2, none⟩) (hk P (by omega) (fun e => h1 e.symm))).trans h.f2, ar_same h.ar hg.size (hk p (by omega) (fun e => h2 e.symm)) (hk B (by omega) (fun e => h3 e.symm)), h.qs.same (fun k hq => hk k (h.qs.hi (by omega) k hq) (fun e => h4 (e ▸ hq))), h.lt, h.ne, Nat.le_trans h.sz hg.size⟩
/-- Numbers that the law is given. -/
theorem ri_arg {w : World} {a : Option Addr} {len cap : Nat} {zs : List Int} (h : IsRow .i64 w a len cap zs) : ∃ xs : List Int, xs.length = len ∧ RI w a xs ∧ (∀ x ∈ xs, wfI x) ∧ len ≤ 9223372036854775807 := by
  rcases h with ⟨rfl, rfl, -, -⟩ | ⟨x, rfl, h1, h2, h3, h4, h5⟩
  · exact ⟨[], rfl, fun i hi => by simp at hi, by simp, by omega⟩
  · refine ⟨zs.take len, by simp; omega, fun i hi => ?_, fun y hy => h5 y (List.mem_of_mem_take hy), by unfold maxLen at h2; omega⟩
    have hi' : i < len := by simp at hi; omega
    have hc := h4 i (by omega)
    refine ⟨x, rfl, ?_, ?_⟩
    · rcases Nat.lt_or_ge x.block w.heap.size with h' | h'
      · exact h'
      · have e : (x.add i).block = x.block := add_block' x i
        simp [World.cell?, e, Array.getElem?_eq_none h'] at hc
    · rw [hc]
      simp [List.getD, hi']
def thk (k : Nat) : Nat → Bool := fun i => decide (i < k)
theorem thk_zero : thk 0 = fun _ => false := by funext i; simp [thk]
theorem thk_succ (k : Nat) : upd (thk k) k true = thk (k + 1) := by
  funext i
  unfold upd thk
  by_cases e : i = k
  · subst e; simp
  · rw [if_neg e]; congr 1; apply propext; omega
theorem thk_free (k : Nat) : freeB (thk k) (fun _ => 0) k = true := by simp [freeB, thk]
theorem thk_taken (k i : Nat) (h : i < k) : freeB (thk k) (fun _ => 0) i = false := by simp [freeB, thk, h]
/-- At the start nobody waits. -/
theorem LS.start {W0 w w1 : World} {base P p B G Q c : Nat} {th : Nat → Bool} {vr_ : Nat → Int} {W : Nat → Nat → Value} (h : DsAt w base P p B G Q 6 c th vr_ W) (hb : Below W0.heap.size W0 w) (hB : W0.heap.size ≤ base) (T : TypeId) (h1 : w1 = w.alloc (.cells #[.int .i64 (-1), .int .i64 (-1), .int .i64 (-1), .int .i64 (-1), .int .i64 (-1), .int .i64 (-1)] T (0, 0))) :
    LS W0 w1 base P p B Q c th vr_ (w.heap.size + 1) 0 w.heap.size (fun _ => SN Q) (fun _ => -1) [] (.slice none 0 0) := by
  subst h1
  have h2 := h.below ((Below.refl _ _).alloc (Nat.le_refl _) (.cells #[.int .i64 (-1), .int .i64 (-1), .int .i64 (-1), .int .i64 (-1), .int .i64 (-1), .int .i64 (-1)] T (0, 0)))
  have hQ := h.qs.lt Q rfl
  have hP := h.pl.pl
  have hp := h.pl.ar.pl
  have hBl := h.pl.ar.lt
  have hPb := h.pl.pb
  have hpb := h.pl.ar.pb
  refine ⟨⟨h2.pl.f0, h2.f2, h2.pl.ar, ⟨fun i hi => .inl ⟨⟨(h2.queue i hi).1, (h2.queue i hi).2, h2.qs.frozenAt _, h2.qs.frozenAt _⟩, rfl, rfl⟩, fun i j k hi hj hne h1 h2 => h1⟩, by omega, ⟨h.q1, ?_, fun e => h.q2 e.symm⟩, by simp⟩, hb.alloc hb.size _, fun j hj => ?_, World.ownsRow_nil _ _ _ _, ⟨List.nodup_nil, by simp, fun _ _ _ => .inl rfl⟩, by omega, by have := hb.size; omega, by simp [Value.ownBlock]⟩
  · intro e
    have hc := h.pl.ar.fld
    have hq := h.qs.cellAt 0 (by decide)
    rw [e] at hc
    rw [hc] at hq
    have := h.queue 0 (by decide)
    rw [show 0 * 2 = 0 from rfl, hc] at this
    simp at this
  · rcases (show j = 0 ∨ j = 1 ∨ j = 2 ∨ j = 3 ∨ j = 4 ∨ j = 5 by omega) with rfl | rfl | rfl | rfl | rfl | rfl <;> simp
end Go.Proofs.YtahhnfhnlffmpaaDoor.V
