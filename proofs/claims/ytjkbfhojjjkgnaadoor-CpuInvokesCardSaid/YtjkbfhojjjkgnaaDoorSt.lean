/-
  package store: what a store is in memory; New, NodeKey, PageKey, Live.
-/
import Derived.Test.YtjkbfhojjjkgnaaDoorPg4
import Derived.Test.YtjkbfhojjjkgnaaDoorNd4
namespace Go.Proofs.YtjkbfhojjjkgnaaDoor
open Go.ChangeShapes Go.WideShapes Go.ChangeAt Go.RowKit
set_option linter.unusedVariables false
/-- Where nodes (or pages) lie, how many. -/
structure Shp where
  b : Nat
  P : Nat
  p : Nat
  B : Nat
  G : Nat
  n : Nat
  c : Nat
/-- A store lies at S: its nodes, its pages behind them. -/
structure StAt (w : World) (S : Nat) (a b : Shp) (th : Nat → Bool) (vr_ : Nat → Int) (W : Nat → Nat → Value) (th2 : Nat → Bool) (vr2 : Nat → Int) (W2 : Nat → Nat → Int) : Prop where
  s0 : w.cell? ⟨S, 0, none⟩ = some (.pointer (some ⟨a.P, 0, none⟩))
  s1 : w.cell? ⟨S, 1, none⟩ = some (.pointer (some ⟨b.P, 0, none⟩))
  sl : S < w.heap.size
  nd : NdAt w a.b a.P a.p a.B a.G a.n a.c th vr_ W
  pg : PgAt w b.b b.P b.p b.B b.G b.n b.c th2 vr2 W2
  ab : a.b ≤ b.b
  hi : a.P < b.b ∧ a.p < b.b ∧ a.B < b.b ∧ a.G < b.b
  hs : b.b ≤ S ∧ b.P ≠ S ∧ b.p ≠ S ∧ b.B ≠ S ∧ b.G ≠ S
theorem row_same' {w w' : World} {B e s n : Nat} {v : Value} {xs : List Value} (h : w.ownsRow B e s v n xs) (hb : ∀ g, v.ownBlock = some g → w'.heap[g]? = w.heap[g]?) : w'.ownsRow B e s v n xs := by
  refine ⟨h.1, ?_⟩
  rcases h.2 with hn | ⟨g, cap, cur, rfl, hB, hg, rest⟩
  · exact .inl hn
  · exact .inr ⟨g, cap, cur, rfl, hB, (hb g rfl).trans hg, rest⟩
section
variable {w w' : World} {base P p B G n c : Nat} {th : Nat → Bool} {vr_ : Nat → Int} {W : Nat → Nat → Value} {W2 : Nat → Nat → Int}
theorem ArAt.same (h : ArAt w base p B n c th vr_) (hs : w.heap.size ≤ w'.heap.size) (h1 : w'.heap[p]? = w.heap[p]?) (h2 : w'.heap[B]? = w.heap[B]?) : ArAt w' base p B n c th vr_ :=
  ⟨Nat.lt_of_lt_of_le h.pl hs, h.pb, (World.cell?_of_block (a := ⟨p, 0, none⟩) h1).trans h.fld, row_same' h.own (fun g hg => by simp [Value.ownBlock] at hg; rw [← hg]; exact h2), h.ne, h.le⟩
theorem NdAt.same (h : NdAt w base P p B G n c th vr_ W) (hs : w.heap.size ≤ w'.heap.size) (h0 : w'.heap[P]? = w.heap[P]?) (h1 : w'.heap[p]? = w.heap[p]?) (h2 : w'.heap[B]? = w.heap[B]?) (h3 : w'.heap[G]? = w.heap[G]?) : NdAt w' base P p B G n c th vr_ W :=
  ⟨Nat.lt_of_lt_of_le h.pl hs, h.pb, (World.cell?_of_block (a := ⟨P, 0, none⟩) h0).trans h.f0, (World.cell?_of_block (a := ⟨P, 1, none⟩) h0).trans h.f1, h.ar.same hs h1 h2, row_same' h.row (fun g hg => by simp [Value.ownBlock] at hg; rw [← hg]; exact h3), h.n1, h.n2, h.n3, h.n4⟩
theorem PgAt.same (h : PgAt w base P p B G n c th vr_ W2) (hs : w.heap.size ≤ w'.heap.size) (h0 : w'.heap[P]? = w.heap[P]?) (h1 : w'.heap[p]? = w.heap[p]?) (h2 : w'.heap[B]? = w.heap[B]?) (h3 : w'.heap[G]? = w.heap[G]?) : PgAt w' base P p B G n c th vr_ W2 :=
  ⟨Nat.lt_of_lt_of_le h.pl hs, h.pb, (World.cell?_of_block (a := ⟨P, 0, none⟩) h0).trans h.f0, (World.cell?_of_block (a := ⟨P, 1, none⟩) h0).trans h.f1, h.ar.same hs h1 h2, row_same' h.row (fun g hg => by simp [Value.ownBlock] at hg; rw [← hg]; exact h3), h.n1, h.n2, h.n3, h.n4⟩
end
section
variable {w w' : World} {S : Nat} {a b : Shp} {th th' : Nat → Bool} {vr_ vr' : Nat → Int} {W W' : Nat → Nat → Value} {th2 th2' : Nat → Bool} {vr2 vr2' : Nat → Int} {W2 W2' : Nat → Nat → Int}
theorem StAt.below (h : (StAt w S a b th vr_ W th2 vr2 W2)) (hb : Below w.heap.size w w') : (StAt w' S a b th vr_ W th2 vr2 W2) :=
  ⟨(hb.cell (p := ⟨S, 0, none⟩) h.sl).trans h.s0, (hb.cell (p := ⟨S, 1, none⟩) h.sl).trans h.s1, Nat.lt_of_lt_of_le h.sl hb.size, h.nd.below hb, h.pg.below hb, h.ab, h.hi, h.hs⟩
theorem StAt.node (h : (StAt w S a b th vr_ W th2 vr2 W2)) (hN : NdAt w' a.b a.P a.p a.B a.G a.n a.c th' vr' W') (hb : PBelow w w' a.B a.G) : StAt w' S a b th' vr' W' th2 vr2 W2 := by
  have hk : ∀ k, k < w.heap.size → b.b ≤ k → w'.heap[k]? = w.heap[k]? := fun k hk hbk => hb.2.2.2.2 k hk (by have := h.hi; omega) (by have := h.hi; omega)
  have hS := hk S h.sl h.hs.1
  refine ⟨(World.cell?_of_block (a := ⟨S, 0, none⟩) hS).trans h.s0, (World.cell?_of_block (a := ⟨S, 1, none⟩) hS).trans h.s1, Nat.lt_of_lt_of_le h.sl hb.2.2.2.1, hN, ?_, h.ab, h.hi, h.hs⟩
  exact h.pg.same hb.2.2.2.1 (hk _ h.pg.pl h.pg.pb) (hk _ h.pg.ar.pl h.pg.ar.pb) (hk _ h.pg.ar.lt.2 h.pg.ar.lt.1) (hk _ (h.pg.row.lt b.G rfl).2 (h.pg.row.lt b.G rfl).1)
theorem StAt.page (h : (StAt w S a b th vr_ W th2 vr2 W2)) (hP : PgAt w' b.b b.P b.p b.B b.G b.n b.c th2' vr2' W2') (hb : PBelow w w' b.B b.G) : StAt w' S a b th vr_ W th2' vr2' W2' := by
  have h1 := h.pg.ar.lt.1
  have h2 := (h.pg.row.lt b.G rfl).1
  have h3 := h.hs
  have h4 := h.hi
  have hS := hb.2.2.2.2 S h.sl (Ne.symm h3.2.2.2.1) (Ne.symm h3.2.2.2.2)
  have hk : ∀ k, k < w.heap.size → k < b.b → w'.heap[k]? = w.heap[k]? := fun k hk hbk => hb.2.2.2.2 k hk (by omega) (by omega)
  refine ⟨(World.cell?_of_block (a := ⟨S, 0, none⟩) hS).trans h.s0, (World.cell?_of_block (a := ⟨S, 1, none⟩) hS).trans h.s1, Nat.lt_of_lt_of_le h.sl hb.2.2.2.1, ?_, hP, h.ab, h.hi, h.hs⟩
  exact h.nd.same hb.2.2.2.1 (hk _ h.nd.pl h4.1) (hk _ h.nd.ar.pl h4.2.1) (hk _ h.nd.ar.lt.2 h4.2.2.1) (hk _ (h.nd.row.lt a.G rfl).2 h4.2.2.2)
end
theorem below_set5 {N b : Nat} {W0 w : World} (h : Below N W0 w) (hb : N ≤ b) (z0 z1 z2 z3 z4 : Int) :
    Below N W0 (((((w.setCell ⟨b, 0, none⟩ (.int .i64 z0)).setCell ⟨b, 1, none⟩ (.int .i64 z1)).setCell ⟨b, 2, none⟩ (.int .i64 z2)).setCell ⟨b, 3, none⟩ (.int .i64 z3)).setCell ⟨b, 4, none⟩ (.int .u32 z4)) :=
  ((((h.setCell hb _).setCell hb _).setCell hb _).setCell hb _).setCell hb _
set_option maxRecDepth 100000 in
theorem snew_ok (x y : Int) (n m : Nat) (hx : Hid (x = n)) (hy : Hid (y = m)) (h1 : 1 ≤ n) (h2 : n ≤ 256) (h3 : 1 ≤ m) (h4 : m ≤ 256) (w : World) :
    Calls Tryd.prog 47 #[.int .i64 x, .int .i64 y] w fun e w' => ∃ S a b, e = .returned (.tuple #[.pointer (some ⟨S, 0, none⟩), .nilIface]) ∧ StAt w' S a b (fun _ => false) (fun _ => 0) (fun _ b => zc b) (fun _ => false) (fun _ => 0) (fun _ _ => 0) ∧ Hid (a.n = n ∧ b.n = m ∧ a.b = w.heap.size) ∧ Below w.heap.size w w' := by
  go_enter Tryd.func47, Tryd.ntmps47
  go_wp2_with (first
    | (go_at_call 67; (with_reducible refine (nnew_ok x n hx h1 h2 _).mono ?_); rintro e w1 ⟨P, p, B, G, rfl, hP, hb⟩; have H1 := Lib.hid hP; have HB1 := Lib.hid hb; clear hP hb)
    | (go_at_call 68; (with_reducible refine (pnew_ok y m hy h3 h4 _).mono ?_); rintro e w2 ⟨P2, p2, B2, G2, rfl, hP, hb⟩; have H2 := Lib.hid hP; have HB2 := Lib.hid hb; clear hP hb))
  go_ret2
  have b1 := HB1.out.size
  have b2 := HB2.out.size
  have a1 := H1.out.pl
  have a2 := H1.out.ar.pl
  have a3 := H1.out.ar.lt.2
  have a4 := (H1.out.row.lt G rfl).2
  have c1 := H2.out.pl
  have c2 := H2.out.ar.pl
  have c3 := H2.out.ar.lt.2
  have c4 := (H2.out.row.lt G2 rfl).2
  refine ⟨_, ⟨w.heap.size, P, p, B, G, n, n⟩, ⟨w1.heap.size, P2, p2, B2, G2, m, m⟩, rfl, ⟨by simp, by simp, by simp, (H1.out.below HB2.out).below ((Below.refl _ _).alloc (Nat.le_refl _) _), H2.out.below ((Below.refl _ _).alloc (Nat.le_refl _) _), b1, by simp only; omega, by simp only; omega⟩, Lib.hid ⟨rfl, rfl, rfl⟩, ?_⟩
  exact (HB1.out.trans (HB2.out.mono b1)).alloc (by omega) _
set_option maxRecDepth 100000 in
theorem slive_is {S : Nat} {a b : Shp} {th : Nat → Bool} {vr_ : Nat → Int} {W : Nat → Nat → Value} {th2 : Nat → Bool} {vr2 : Nat → Int} {W2 : Nat → Nat → Int} (k0 k1 k2 k3 k4 : Int) (t : Bool) (ht : Hid ((if k0 = 2 then (thereB a.n th k1 && (vr_ k1.toNat == k2)) else if k0 = 3 then (thereB b.n th2 k1 && (vr2 k1.toNat == k2)) else false) = t)) (w : World) (h : (StAt w S a b th vr_ W th2 vr2 W2)) :
    Calls Tryd.prog 107 #[.pointer (some ⟨S, 0, none⟩), (Value.agg #[.int .i64 k0, .int .i64 k1, .int .i64 k2, .int .i64 k3, .int .u32 k4])] w fun e w' => e = .returned (.bool t) ∧ Below w.heap.size w w' := by
  have HD := Lib.hid (fun o => h.below ((((Below.refl _ _).alloc (Nat.le_refl _) _ : Below w.heap.size w (w.alloc o))).drew))
  clear h
  by_cases h2 : k0 = 2
  · obtain rfl := h2
    have HT : Hid ((thereB a.n th k1 && (vr_ k1.toNat == k2)) = t) := Lib.hid (by have := ht.out; rwa [if_pos rfl] at this)
    clear ht
    go_enter Tryd.func107, Tryd.ntmps107
    go_wp2_with fail
    go_region_held3 (fun w' => w'.cell? ⟨S, 0, none⟩ = some (.pointer (some ⟨a.P, 0, none⟩)) ∧ w'.cell? ⟨a.P, 0, none⟩ = some (.pointer (some ⟨a.p, 0, none⟩)) ∧ w'.cell? ⟨w.heap.size, 1, none⟩ = some (.int .i64 k1) ∧ w'.cell? ⟨w.heap.size, 2, none⟩ = some (.int .i64 k2)) (first | exact ⟨(HD.out _).s0, (HD.out _).nd.f0, by simp, by simp⟩ | assumption)
      (first | (go_at_call 109; (with_reducible refine (alive_is k1 k2 t HT _ (HD.out _).nd.ar).mono ?_); rintro e w1 ⟨rfl, rfl⟩))
    go_wp2_with fail
    go_ret
    exact ⟨rfl, ((Below.refl _ _).alloc (Nat.le_refl _) _ : Below w.heap.size w _).drew⟩
  · have t2 : (k0 == 2) = false := by simpa using h2
    by_cases h3 : k0 = 3
    · obtain rfl := h3
      have HT : Hid ((thereB b.n th2 k1 && (vr2 k1.toNat == k2)) = t) := Lib.hid (by have := ht.out; rwa [if_neg h2, if_pos rfl] at this)
      clear ht h2 t2
      go_enter Tryd.func107, Tryd.ntmps107
      go_wp2_with fail
      go_region_held3 (fun w' => w'.cell? ⟨S, 1, none⟩ = some (.pointer (some ⟨b.P, 0, none⟩)) ∧ w'.cell? ⟨b.P, 0, none⟩ = some (.pointer (some ⟨b.p, 0, none⟩)) ∧ w'.cell? ⟨w.heap.size, 1, none⟩ = some (.int .i64 k1) ∧ w'.cell? ⟨w.heap.size, 2, none⟩ = some (.int .i64 k2)) (first | exact ⟨(HD.out _).s1, (HD.out _).pg.f0, by simp, by simp⟩ | assumption)
        (first | (go_at_call 109; (with_reducible refine (alive_is k1 k2 t HT _ (HD.out _).pg.ar).mono ?_); rintro e w1 ⟨rfl, rfl⟩))
      go_wp2_with fail
      go_ret
      exact ⟨rfl, ((Below.refl _ _).alloc (Nat.le_refl _) _ : Below w.heap.size w _).drew⟩
    · have t3 : (k0 == 3) = false := by simpa using h3
      have HT : t = false := by have := ht.out; rw [if_neg h2, if_neg h3] at this; exact this.symm
      subst HT
      clear ht
      go_enter Tryd.func107, Tryd.ntmps107
      go_wp2_with fail
      go_ret
      exact ⟨rfl, (Below.refl _ _).alloc (Nat.le_refl _) _⟩
set_option maxHeartbeats 1000000 in
theorem spagekey_in {S : Nat} {a b : Shp} {th : Nat → Bool} {vr_ : Nat → Int} {W : Nat → Nat → Value} {th2 : Nat → Bool} {vr2 : Nat → Int} {W2 : Nat → Nat → Int} (x : Int) (k : Nat) (hx : Hid (x = k)) (hk : k < b.n) (ht : Hid (th2 k = true)) (v : Int) (hv : Hid (vr2 k = v)) (w : World) (h : (StAt w S a b th vr_ W th2 vr2 W2)) :
    Calls Tryd.prog 34 #[.pointer (some ⟨S, 0, none⟩), .int .i64 x] w fun e w' => e = .returned (.agg #[.int .i64 3, .int .i64 x, .int .i64 v, .int .i64 0, .int .u32 0]) ∧ Below w.heap.size w w' := by
  have H := Lib.hid (fun o => h.below ((Below.refl _ _).alloc (Nat.le_refl _) _ : Below w.heap.size w (w.alloc o)))
  have s1 : ∀ o, (w.alloc o).cell? ⟨S, 1, none⟩ = some (.pointer (some ⟨b.P, 0, none⟩)) := fun o => (H.out o).s1
  have f1 : ∀ o, (w.alloc o).cell? ⟨b.P, 0, none⟩ = some (.pointer (some ⟨b.p, 0, none⟩)) := fun o => (H.out o).pg.f0
  have hkx := hx.out
  subst hkx
  clear h
  go_enter Tryd.func34, Tryd.ntmps34
  go_wp2_with (first
    | (go_at_call 52; (with_reducible refine (athere_in k hk true ht _ (H.out _).pg.ar).mono ?_); rintro e w1 ⟨rfl, rfl⟩)
    | (go_at_call 53; (with_reducible refine (aver_in k hk v hv _ (H.out _).pg.ar).mono ?_); rintro e w1 ⟨rfl, rfl⟩))
  refine bodyPost_ret (v := .agg #[.int .i64 3, .int .i64 (k : Int), .int .i64 v, .int .i64 0, .int .u32 0]) (by simp [results, Tryd.results34, go_sem]) rfl ⟨rfl, ?_⟩
  exact (Below.refl _ _).alloc (Nat.le_refl _) _
set_option maxHeartbeats 1000000 in
theorem snodekey_in {S : Nat} {a b : Shp} {th : Nat → Bool} {vr_ : Nat → Int} {W : Nat → Nat → Value} {th2 : Nat → Bool} {vr2 : Nat → Int} {W2 : Nat → Nat → Int} (x y : Int) (k : Nat) (hx : Hid (x = k)) (hy0 : 0 ≤ y) (hy : y ≤ 4) (hk : k < a.n) (ht : Hid (th k = true)) (v : Int) (hv : Hid (vr_ k = v)) (w : World) (h : (StAt w S a b th vr_ W th2 vr2 W2)) :
    Calls Tryd.prog 38 #[.pointer (some ⟨S, 0, none⟩), .int .i64 x, .int .i64 y] w fun e w' => e = .returned (.agg #[.int .i64 2, .int .i64 x, .int .i64 v, .int .i64 0, .int .u32 y]) ∧ Below w.heap.size w w' := by
  have H := Lib.hid (fun o => h.below ((Below.refl _ _).alloc (Nat.le_refl _) _ : Below w.heap.size w (w.alloc o)))
  have s0 : ∀ o, (w.alloc o).cell? ⟨S, 0, none⟩ = some (.pointer (some ⟨a.P, 0, none⟩)) := fun o => (H.out o).s0
  have f0 : ∀ o, (w.alloc o).cell? ⟨a.P, 0, none⟩ = some (.pointer (some ⟨a.p, 0, none⟩)) := fun o => (H.out o).nd.f0
  have hkx := hx.out
  have hw : IntKind.u32.wrap y = y := by rw [IntKind.wrap_u32]; omega
  have d0 : decide (y < 0) = false := decide_eq_false (by omega)
  have d1 : decide (4 < y) = false := decide_eq_false (by omega)
  subst hkx
  clear h
  go_enter Tryd.func38, Tryd.ntmps38
  go_wp2_with (first
    | (go_at_call 52; (with_reducible refine (athere_in k hk true ht _ (H.out _).nd.ar).mono ?_); rintro e w1 ⟨rfl, rfl⟩)
    | (go_at_call 53; (with_reducible refine (aver_in k hk v hv _ (H.out _).nd.ar).mono ?_); rintro e w1 ⟨rfl, rfl⟩))
  refine bodyPost_ret (v := .agg #[.int .i64 2, .int .i64 (k : Int), .int .i64 v, .int .i64 0, .int .u32 y]) (by simp [results, Tryd.results38, go_sem]) rfl ⟨rfl, ?_⟩
  exact (Below.refl _ _).alloc (Nat.le_refl _) _
end Go.Proofs.YtjkbfhojjjkgnaaDoor
