/-
  PageApart.
-/
import Derived.Test.YtlefmgdfcpnifaaDoorPg3
namespace Go.Proofs.YtlefmgdfcpnifaaDoor
open Go.ChangeShapes Go.WideShapes Go.ChangeAt Go.RowKit
set_option linter.unusedVariables false
theorem pwrite_at {base P p B G n c : Nat} {th : Nat → Bool} {vr : Nat → Int} {W : Nat → Nat → Int} (kk aa : Int) (k at_ : Nat) (hkk : Hid (kk = k)) (haa : Hid (aa = at_)) (hk : k < n) (ha : at_ < 32) (ht : Hid (th k = true)) (x : Int) (w : World) (h : PgAt w base P p B G n c th vr W) :
    Calls Tryd.prog 32 #[.pointer (some ⟨P, 0, none⟩), .int .i64 kk, .int .i64 aa, .int .u32 x] w fun e w' => e = .returned (.bool true) ∧ PgAt w' base P p B G n c th vr (updA W k at_ x) ∧ PBelow w w' B G := by
  rw [hkk.out, haa.out]; exact pwrite_is k at_ hk ha ht x w h
theorem srcu2 (w : World) (x y : Int) (t : TypeId) (B G : Nat) (h1 : B < w.heap.size) (h2 : G < w.heap.size) : SrcU (w.alloc (.cells #[.int .u32 x, .int .u32 y] t)) (some ⟨w.heap.size, 0, none⟩) [x, y] B G := by
  refine ⟨fun j hj => ⟨_, rfl, by simp, by simp; omega, by simp; omega, ?_⟩⟩
  match j, hj with
  | 0, _ | 1, _ => simp [Addr.add, List.getD]
/-- The words while the pages are made. -/
def wk (k : Nat) : Nat → Nat → Int := fun a b => if a < k ∧ b < 2 then (a : Int) else 0
theorem wk_next (k a b : Nat) (hb : b < 32) : fresh (wk k) k [(k : Int), (k : Int)] a b = wk (k + 1) a b := by
  by_cases e : a = k
  · subst e
    rw [fresh_at _ _ _ _ hb]
    unfold wk
    match b with
    | 0 | 1 => simp
    | b + 2 => rw [if_neg (by simp), if_neg (by omega)]
  · rw [fresh_other _ _ _ _ _ e]
    unfold wk
    by_cases h : a < k ∧ b < 2
    · rw [if_pos h, if_pos ⟨by omega, h.2⟩]
    · rw [if_neg h, if_neg (by omega)]
theorem flat_congr {W W' : Nat → Nat → Int} (n : Nat) (h : ∀ i j, j < 32 → W i j = W' i j) : flat W n = flat W' n := by
  unfold flat
  apply List.map_congr_left
  intro q _
  rw [h _ _ (Nat.mod_lt _ (by decide))]
theorem PV.words {W0 w : World} {base P p B G n c : Nat} {th : Nat → Bool} {vr : Nat → Int} {W W' : Nat → Nat → Int} (h : PV W0 w base P p B G n c th vr W) (h1 : ∀ i j, j < 32 → W i j = W' i j) : PV W0 w base P p B G n c th vr W' :=
  ⟨h.bel, h.wb, ⟨h.pg.pl, h.pg.pb, h.pg.f0, h.pg.f1, h.pg.ar, by rw [← flat_congr n h1]; exact h.pg.row, h.pg.n1, h.pg.n2, h.pg.n3, h.pg.n4⟩⟩
/-- The pages, and what was handed out of one. -/
structure LR (W0 w : World) (base P p B G n c : Nat) (th : Nat → Bool) (vr : Nat → Int) (W : Nat → Nat → Int) (g c' : Nat) : Prop where
  pv : PV W0 w base P p B G n c th vr W
  row : ∃ ys : List Int, ys.length = 32 ∧ w.ownsRow W0.heap.size 47 1 (.slice (some ⟨g, 0, none⟩) 32 c') 32 (ys.map (Value.int .u32))
  n1 : g ≠ P
  n2 : g ≠ p
  n3 : g ≠ B
  n4 : g ≠ G
section
variable {W0 w w' : World} {base P p B G n c g c' : Nat} {th : Nat → Bool} {vr : Nat → Int} {W : Nat → Nat → Int}
theorem LR.at (h : LR W0 w base P p B G n c th vr W g c') (k : Nat) (hk : k < 32) : ∃ x, w.cell? ⟨g, k, none⟩ = some (.int .u32 x) ∧ w.frozen? ⟨g, k, none⟩ = false := by
  obtain ⟨ys, hy, hr⟩ := h.row
  refine ⟨ys.getD k 0, ?_, hr.frozenAt k⟩
  rw [hr.cellAt k (by omega)]
  have : k < ys.length := by omega
  simp [List.getD, this]
theorem LR.put (h : LR W0 w base P p B G n c th vr W g c') (k : Nat) (x : Int) : LR W0 (w.setCell ⟨g, k, none⟩ (.int .u32 x)) base P p B G n c th vr W g c' := by
  obtain ⟨ys, hy, hr⟩ := h.row
  have hs := hr.stored k (.int .u32 x)
  refine ⟨⟨h.pv.bel.grown hs.2 h.pv.bel.size (fun j hj => by injection hj with e; have := (hr.lt g rfl).1; omega), h.pv.wb, h.pv.pg.kept hs.2 h.n1 h.n2 h.n3 h.n4⟩, ⟨ys.set k x, by simpa using hy, by rw [List.map_set]; exact hs.1⟩, h.n1, h.n2, h.n3, h.n4⟩
theorem LR.start (h : PV W0 w base P p B G n c th vr W) (xs : List Int) (hx : xs.length = 32) (hr : w'.ownsRow w.heap.size 47 1 (.slice (some ⟨g, 0, none⟩) 32 c') 32 (xs.map (Value.int .u32))) (hb : Below w.heap.size w w') : LR W0 w' base P p B G n c th vr W g c' := by
  have hg := (hr.lt g rfl).1
  have h1 := h.pg.pl
  have h2 := h.pg.ar.pl
  have h3 := h.pg.ar.lt.2
  have h4 := (h.pg.row.lt G rfl).2
  refine ⟨h.step hb, ⟨xs, hx, hr.1, ?_⟩, by omega, by omega, by omega, by omega⟩
  rcases hr.2 with h0 | ⟨g, cap, cur, hv, hB, rest⟩
  · exact .inl h0
  · exact .inr ⟨g, cap, cur, hv, Nat.le_trans h.bel.size hB, rest⟩
end
set_option maxRecDepth 100000 in
set_option maxHeartbeats 8000000 in
theorem apart_any (n0 t0 x : Int) (g1 : -9223372036854775808 ≤ n0) (g2 : n0 ≤ 9223372036854775807) (g3 : -9223372036854775808 ≤ t0) (g4 : t0 ≤ 9223372036854775807) (w : World) :
    Calls Tryd.prog 7 #[.int .i64 n0, .int .i64 t0, .int .u32 x] w fun e w' => e = .returned (.bool true) ∧ Below w.heap.size w w' := by
  obtain ⟨R, hR, CR⟩ := number_nat n0 8 8 rfl (by decide) (by decide) g1 g2
  obtain ⟨T, hT, CT⟩ := number_nat t0 32 32 rfl (by decide) (by decide) g3 g4
  have CR' := Lib.hid CR
  have CT' := Lib.hid CT
  obtain ⟨N, hN⟩ : ∃ N : Nat, (R : Int) + 2 = N := ⟨R + 2, by simp⟩
  have hN1 : 2 ≤ N := by omega
  have hN2 : N ≤ 9 := by omega
  obtain ⟨K, HK⟩ : ∃ K : Nat, Hid (T % N = K) := ⟨_, Lib.hid rfl⟩
  have hKN : K < N := by rw [← HK.out]; exact Nat.mod_lt _ (by omega)
  have hmod : (T : Int) % (N : Int) = K := by rw [← HK.out]; simp
  clear CR CT g1 g2 g3 g4
  go_enter Tryd.func7, Tryd.ntmps7
  go_wp2_with (first
    | (go_at_call 27; refine (pfirst_is _).mono ?_; rintro e w1 ⟨rfl, hb1⟩; have HB1 := Lib.hid hb1; clear hb1)
    | (go_at_call 26; (with_reducible refine (CR'.out _).mono ?_); rintro e w2 ⟨rfl, rfl⟩)
    | (go_at_call 26; (with_reducible refine (CT'.out _).mono ?_); rintro e w2 ⟨rfl, rfl⟩)
    | (go_at_call 28; (with_reducible refine (pnew_ok _ N (Lib.hid rfl) (by omega) (by omega) _).mono ?_); rintro e w2 ⟨P, p, B, G, rfl, hP, hb⟩; have HV : Hid (PV w w2 w1.heap.size P p B G N N (thK 0) (fun _ => 0) (wk 0)) := Lib.hid (((PV.mk (HB1.out.trans (hb.mono HB1.out.size)) HB1.out.size hP : PV w w2 w1.heap.size P p B G N N _ _ _).congr (fun i _ => by simp [thK]) (fun _ _ => rfl)).words (fun i j _ => by simp [wk])); clear hP hb))
  go_loopw [10] (fun i wr => ∃ k : Nat, k ≤ N ∧ i = .int .i64 k ∧ PV w wr w1.heap.size P p B G N N (thK k) (fun _ => 0) (wk k)) (fun i _ => N - (intOf i).toNat)
  case atStart => exact ⟨0, by omega, rfl, HV.out⟩
  case round =>
    obtain ⟨k, hk, rfl, hV⟩ := hrel
    have HV1 := Lib.hid hV
    clear hV
    by_cases hlt : k < N
    · have HF : Hid (freeB (thK k) (fun _ => 0) k = true) := Lib.hid (by simp [freeB, thK])
      have HNo : Hid (∀ i, i < k → freeB (thK k) (fun _ => 0) i = false) := Lib.hid (by intro i hi; simp [freeB, thK, hi])
      have hu : (k : Int) % 4294967296 = k := by omega
      have HS := fun t => Lib.hid (srcu2 wr (k : Int) (k : Int) t B G HV1.out.ar.lt.2 (HV1.out.pg.row.lt G rfl).2)
      have HB := fun o => Lib.hid (HV1.out.step ((Below.refl _ _).alloc (Nat.le_refl _) o))
      go_wp2_with (first
        | (go_at_call 31; (with_reducible refine (pmake_ok _ 2 2 [(k : Int), (k : Int)] (Lib.hid rfl) (by decide) k hlt HF HNo 0 (Lib.hid rfl) _ (HB _).out.pg (HS _).out).mono ?_); rintro e w3 ⟨rfl, hP3, hb3⟩; have HV3 : Hid (PV w w3 w1.heap.size P p B G N N (thK (k + 1)) (fun _ => 0) (wk (k + 1))) := Lib.hid ((((HB _).out.made hP3 hb3).congr (fun i _ => by unfold upd thK; by_cases e : i = k <;> simp [e] <;> omega) (fun _ _ => rfl)).words (fun i j hj => wk_next k i j hj)); clear hP3 hb3))
      go_roundw
      case rel => exact ⟨k + 1, by omega, by go_num, HV3.out⟩
      case measure => simp [intOf]; omega
    · obtain rfl : N = k := by omega
      have hdd : decide (N < N) = false := by simp
      have HTK : Hid (thK N K = true) := Lib.hid (by simp [thK, hKN])
      go_wp2_with (first
        | (go_at_call 32; (with_reducible refine (pwrite_at (K : Int) (T : Int) K T (Lib.hid rfl) (Lib.hid rfl) hKN hT HTK x _ HV1.out.pg).mono ?_); rintro e w4 ⟨rfl, hP4, hb4⟩; have HV4 := Lib.hid (HV1.out.made hP4 hb4); clear hP4 hb4)
        | (go_at_call 30; (with_reducible refine (pwords_is K hKN HTK _ HV4.out.pg).mono ?_); rintro e w5 ⟨g, c', rfl, hr5, hb5⟩; have HL := Lib.hid (LR.start HV4.out _ (by simp) hr5 hb5); clear hr5 hb5))
      go_loopw [16] (fun i wx => ∃ m : Nat, m ≤ 32 ∧ i = .int .i64 m ∧ LR w wx w1.heap.size P p B G N N (thK N) (fun _ => 0) (updA (wk N) K T x) g c') (fun i _ => 32 - (intOf i).toNat)
      case atStart => exact ⟨0, by omega, rfl, HL.out⟩
      case round =>
        obtain ⟨m, hm, rfl, hL⟩ := hrel
        have HL2 := Lib.hid hL
        by_cases hlt2 : m < 32
        · obtain ⟨y, hc, hf⟩ := hL.at m hlt2
          have k0 : (0 : Int) ≤ m := by omega
          have k1 : (m : Int) < 32 := by omega
          clear hL
          go_wp2_with fail
          go_roundw
          case rel => exact ⟨m + 1, by omega, by go_num, HL2.out.put m _⟩
          case measure => simp [intOf]; omega
        · obtain rfl : m = 32 := by omega
          clear hL
          go_wp2_with fail
          go_loop [17] (fun i => ∃ a : Nat, a ≤ N ∧ i = .int .i64 a) (fun i => N - (intOf i).toNat)
          case atStart => exact ⟨0, by omega, rfl⟩
          case round =>
            obtain ⟨a, ha0, rfl⟩ := hrel
            by_cases ha : a < N
            · have HTa : Hid (thK N a = true) := Lib.hid (by simp [thK, ha])
              have hu : (a : Int) % 4294967296 = a := by omega
              go_wp2_with fail
              go_loop [18] (fun i => ∃ b : Nat, b ≤ 32 ∧ i = .int .i64 b) (fun i => 32 - (intOf i).toNat)
              case atStart => exact ⟨0, by omega, rfl⟩
              case round =>
                obtain ⟨b, hb0, rfl⟩ := hrel
                by_cases hb : b < 32
                · have hs : ((a : Int) == (K : Int)) = true ∧ ((b : Int) == (T : Int)) = true ∧ (a = K ∧ b = T) ∨ ((a : Int) == (K : Int)) = true ∧ ((b : Int) == (T : Int)) = false ∧ ¬ (a = K ∧ b = T) ∨ ((a : Int) == (K : Int)) = false ∧ ¬ (a = K ∧ b = T) := by
                    by_cases e1 : a = K
                    · by_cases e2 : b = T
                      · exact .inl ⟨by simp [e1], by simp [e2], e1, e2⟩
                      · exact .inr (.inl ⟨by simp [e1], by simp; omega, fun h => e2 h.2⟩)
                    · exact .inr (.inr ⟨by simp; omega, fun h => e1 h.1⟩)
                  by_cases hb2 : b < 2
                  · have V1 : Hid (¬ (a = K ∧ b = T) → updA (wk N) K T x a b = (a : Int)) := Lib.hid (fun h => by unfold updA wk; rw [if_neg h, if_pos ⟨ha, hb2⟩])
                    have V2 : Hid ((a = K ∧ b = T) → updA (wk N) K T x a b = x) := Lib.hid (fun h => by unfold updA; rw [if_pos h])
                    rcases hs with ⟨e1, e2, h⟩ | ⟨e1, e2, h⟩ | ⟨e1, h⟩
                    · have HV2 := Lib.hid (V2.out h)
                      clear h
                      go_wp2_with (first | (go_at_call 33; (with_reducible refine (pread_is a b ha hb HTa x HV2 _ HL2.out.pv.pg).mono ?_); rintro e w8 ⟨rfl, rfl⟩))
                      go_round
                      case rel => exact ⟨b + 1, by omega, by go_num⟩
                      case measure => simp [intOf]; omega
                    · have HV1 := Lib.hid (V1.out h)
                      clear h
                      go_wp2_with (first | (go_at_call 33; (with_reducible refine (pread_is a b ha hb HTa (a : Int) HV1 _ HL2.out.pv.pg).mono ?_); rintro e w8 ⟨rfl, rfl⟩))
                      go_round
                      case rel => exact ⟨b + 1, by omega, by go_num⟩
                      case measure => simp [intOf]; omega
                    · have HV1 := Lib.hid (V1.out h)
                      clear h
                      go_wp2_with (first | (go_at_call 33; (with_reducible refine (pread_is a b ha hb HTa (a : Int) HV1 _ HL2.out.pv.pg).mono ?_); rintro e w8 ⟨rfl, rfl⟩))
                      go_round
                      case rel => exact ⟨b + 1, by omega, by go_num⟩
                      case measure => simp [intOf]; omega
                  · have V1 : Hid (¬ (a = K ∧ b = T) → updA (wk N) K T x a b = 0) := Lib.hid (fun h => by unfold updA wk; rw [if_neg h, if_neg (by omega)])
                    have V2 : Hid ((a = K ∧ b = T) → updA (wk N) K T x a b = x) := Lib.hid (fun h => by unfold updA; rw [if_pos h])
                    rcases hs with ⟨e1, e2, h⟩ | ⟨e1, e2, h⟩ | ⟨e1, h⟩
                    · have HV2 := Lib.hid (V2.out h)
                      clear h
                      go_wp2_with (first | (go_at_call 33; (with_reducible refine (pread_is a b ha hb HTa x HV2 _ HL2.out.pv.pg).mono ?_); rintro e w8 ⟨rfl, rfl⟩))
                      go_round
                      case rel => exact ⟨b + 1, by omega, by go_num⟩
                      case measure => simp [intOf]; omega
                    · have HV1 := Lib.hid (V1.out h)
                      clear h
                      go_wp2_with (first | (go_at_call 33; (with_reducible refine (pread_is a b ha hb HTa 0 HV1 _ HL2.out.pv.pg).mono ?_); rintro e w8 ⟨rfl, rfl⟩))
                      go_round
                      case rel => exact ⟨b + 1, by omega, by go_num⟩
                      case measure => simp [intOf]; omega
                    · have HV1 := Lib.hid (V1.out h)
                      clear h
                      go_wp2_with (first | (go_at_call 33; (with_reducible refine (pread_is a b ha hb HTa 0 HV1 _ HL2.out.pv.pg).mono ?_); rintro e w8 ⟨rfl, rfl⟩))
                      go_round
                      case rel => exact ⟨b + 1, by omega, by go_num⟩
                      case measure => simp [intOf]; omega
                · obtain rfl : b = 32 := by omega
                  go_wp2_with fail
                  go_round
                  case rel => exact ⟨a + 1, by omega, by go_num⟩
                  case measure => simp [intOf]; omega
            · obtain rfl : N = a := by omega
              have hdd2 : decide (N < N) = false := by simp
              go_wp2_with fail
              go_ret
              exact ⟨rfl, HL2.out.pv.bel⟩
theorem walk_PageApart (a0 : Int) (a1 : Int) (a2 : Int) (w : World) (w0 : (Lit.int .i64 a0).wf = true) (w1 : (Lit.int .i64 a1).wf = true) (w2 : (Lit.int .u32 a2).wf = true) (hL : laidMetH Tryd.prog Rows.pageApartRow.laid w) :
    Calls Tryd.prog 7 #[.int .i64 a0, .int .i64 a1, .int .u32 a2] w fun e w' => e = .returned (.bool true) ∧ Below w.heap.size w w' :=
  apart_any a0 a1 a2 (i64_fit w0).1 (i64_fit w0).2 (i64_fit w1).1 (i64_fit w1).2 w
end Go.Proofs.YtlefmgdfcpnifaaDoor
