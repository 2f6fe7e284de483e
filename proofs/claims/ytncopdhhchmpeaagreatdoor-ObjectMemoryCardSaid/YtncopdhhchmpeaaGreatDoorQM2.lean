/-
  StR, StG, Pa2, St2, Pa3, Sy, Sy2, Sy3, Pa, Pa4, Pa5, St3, Pa6, Pa7, Wy, Pa8, Pa9, PaN, Ca, Ca2, Ca3, Ca4, Me, Me2, Me3, Me4, Mf, Mg, Bk4, Bk5, Bk6, Bk7, Bk8, Bk9, BkA, Ya, Yr, Yd, Oa, Ob, Oc, Mt2, Od: what ObjectMemory reaches of them.
-/
import Derived.Test.YtncopdhhchmpeaaGreatDoorQM1
namespace Go.Proofs.YtncopdhhchmpeaaGreatDoor
open Go.ChangeShapes Go.WideShapes Go.ChangeAt Go.RowKit
set_option linter.unusedVariables false
/-- Is the object there that a key names? -/
def liveB (a b : Shp) (th : Nat → Bool) (vr_ : Nat → Int) (th2 : Nat → Bool) (vr2 : Nat → Int) (k0 k1 k2 : Int) : Bool := if k0 = 2 then (thereB a.n th k1 && (vr_ k1.toNat == k2)) else if k0 = 3 then (thereB b.n th2 k1 && (vr2 k1.toNat == k2)) else false
theorem slive_at {S : Nat} {a b : Shp} {th : Nat → Bool} {vr_ : Nat → Int} {W : Nat → Nat → Value} {th2 : Nat → Bool} {vr2 : Nat → Int} {W2 : Nat → Nat → Int} (k0 k1 k2 k3 k4 : Int) (t : Bool) (ht : Hid (liveB a b th vr_ th2 vr2 k0 k1 k2 = t)) (w : World) (h : (StAt w S a b th vr_ W th2 vr2 W2)) :
    Calls Tryz.prog 66 #[.pointer (some ⟨S, 0, none⟩), (Value.agg #[.int .i64 k0, .int .i64 k1, .int .i64 k2, .int .i64 k3, .int .u32 k4])] w fun e w' => e = .returned (.bool t) ∧ Below w.heap.size w w' := slive_is k0 k1 k2 k3 k4 t (Lib.hid ht.out) w h
theorem sread_ok {S : Nat} {a b : Shp} {th : Nat → Bool} {vr_ : Nat → Int} {W : Nat → Nat → Value} {th2 : Nat → Bool} {vr2 : Nat → Int} {W2 : Nat → Nat → Int} (k0 k1 k2 k3 k4 : Int) (ht : Hid (liveB a b th vr_ th2 vr2 k0 k1 k2 = true)) (hb : bits BinOp.and IntKind.i64 k3 2 = 0) (w : World) (h : (StAt w S a b th vr_ W th2 vr2 W2)) :
    Calls Tryz.prog 172 #[.pointer (some ⟨S, 0, none⟩), (Value.agg #[.int .i64 k0, .int .i64 k1, .int .i64 k2, .int .i64 k3, .int .u32 k4]), .int .i64 k0] w fun e w' => e = .returned .nilIface ∧ Below w.heap.size w w' := by
  have H := Lib.hid (h.below ((Below.refl _ _).alloc (Nat.le_refl _) _ : Below w.heap.size w (w.alloc (.cells #[.int .i64 k0, .int .i64 k1, .int .i64 k2, .int .i64 k3, .int .u32 k4] 42))))
  clear h
  go_enter Tryz.func172, Tryz.ntmps172
  go_wp2_with (first
    | (go_at_call 66; (with_reducible refine (slive_at k0 k1 k2 k3 k4 true ht _ H.out).mono ?_); rintro e w1 ⟨rfl, hb⟩; have HB := Lib.hid (((Below.refl _ _).alloc (Nat.le_refl _) _ : Below w.heap.size w _).trans (hb.mono (by simp))); have e3 := hb.cell (p := ⟨w.heap.size, 3, none⟩) (by simp); simp at e3; clear hb))
  go_ret
  exact ⟨rfl, HB.out⟩
theorem new1 (X : World) (cs : Array Value) (T : TypeId) (j : Nat) : (X.alloc (.cells cs T (0, 0))).cell? ⟨X.heap.size, j, none⟩ = cs[j]? ∧ (X.alloc (.cells cs T (0, 0))).frozen? ⟨X.heap.size, j, none⟩ = false ∧ X.heap.size < (X.alloc (.cells cs T (0, 0))).heap.size := ⟨by simp, by simp, by simp⟩
theorem new3 (w : World) (o o' : Obj) (cs : Array Value) (T : TypeId) (j : Nat) : (((w.alloc o).alloc o').alloc (.cells cs T (0, 0))).cell? ⟨w.heap.size + 1 + 1, j, none⟩ = cs[j]? ∧ (((w.alloc o).alloc o').alloc (.cells cs T (0, 0))).frozen? ⟨w.heap.size + 1 + 1, j, none⟩ = false ∧ w.heap.size + 1 + 1 < (((w.alloc o).alloc o').alloc (.cells cs T (0, 0))).heap.size := by
  have e : w.heap.size + 1 + 1 = ((w.alloc o).alloc o').heap.size := by simp
  have h := new1 ((w.alloc o).alloc o') cs T j
  rw [← e] at h
  exact h
theorem kcell5 {W : World} {b : Nat} (z0 z1 z2 z3 z4 : Int) (c0 : ∃ v, W.cell? ⟨b, 0, none⟩ = some v) (c1 : ∃ v, W.cell? ⟨b, 1, none⟩ = some v) (c2 : ∃ v, W.cell? ⟨b, 2, none⟩ = some v) (c3 : ∃ v, W.cell? ⟨b, 3, none⟩ = some v) (c4 : ∃ v, W.cell? ⟨b, 4, none⟩ = some v) :
    let X := (((((W.setCell ⟨b, 0, none⟩ (.int .i64 z0)).setCell ⟨b, 1, none⟩ (.int .i64 z1)).setCell ⟨b, 2, none⟩ (.int .i64 z2)).setCell ⟨b, 3, none⟩ (.int .i64 z3)).setCell ⟨b, 4, none⟩ (.int .u32 z4))
    X.cell? ⟨b, 0, none⟩ = some (.int .i64 z0) ∧ X.cell? ⟨b, 1, none⟩ = some (.int .i64 z1) ∧ X.cell? ⟨b, 2, none⟩ = some (.int .i64 z2) ∧ X.cell? ⟨b, 3, none⟩ = some (.int .i64 z3) ∧ X.cell? ⟨b, 4, none⟩ = some (.int .u32 z4) := by
  have hs : ∀ j, j < (k5 z0 z1 z2 z3 z4).length → (W.cell? ⟨b, 0 + j, none⟩).isSome = true := by
    intro j hj
    rw [Nat.zero_add]
    rcases five j hj with rfl | rfl | rfl | rfl | rfl
    · obtain ⟨v, h⟩ := c0; rw [h]; rfl
    · obtain ⟨v, h⟩ := c1; rw [h]; rfl
    · obtain ⟨v, h⟩ := c2; rw [h]; rfl
    · obtain ⟨v, h⟩ := c3; rw [h]; rfl
    · obtain ⟨v, h⟩ := c4; rw [h]; rfl
  have all := World.cell?_setCells_in b (k5 z0 z1 z2 z3 z4) 0 W hs
  exact ⟨all 0 (by simp [k5]), all 1 (by simp [k5]), all 2 (by simp [k5]), all 3 (by simp [k5]), all 4 (by simp [k5])⟩
set_option maxRecDepth 100000 in
theorem speek_ok {S : Nat} {a b : Shp} {th : Nat → Bool} {vr_ : Nat → Int} {W : Nat → Nat → Value} {th2 : Nat → Bool} {vr2 : Nat → Int} {W2 : Nat → Nat → Int} (k1 : Int) (k : Nat) (k2 k3 k4 s : Int) (j : Nat) (hk1 : k1 = k) (hs : s = j) (hk : k < b.n) (hj : j < 32) (hth : Hid (th2 k = true)) (ht : Hid (liveB a b th vr_ th2 vr2 3 k1 k2 = true)) (hb0 : bits BinOp.and IntKind.i64 k3 2 = 0) (x : Int) (hx : Hid (W2 k j = x)) (w : World) (h : (StAt w S a b th vr_ W th2 vr2 W2)) :
    Calls Tryz.prog 142 #[.pointer (some ⟨S, 0, none⟩), .agg #[.int .i64 3, .int .i64 k1, .int .i64 k2, .int .i64 k3, .int .u32 k4], .int .i64 s] w fun e w' => e = .returned (.tuple #[.int .u32 x, .nilIface]) ∧ Below w.heap.size w w' := by
  have hb1 : ∀ o, Below w.heap.size w (w.alloc o) := fun o => (Below.refl _ _).alloc (Nat.le_refl _) _
  have H := Lib.hid (fun o => h.below (hb1 o))
  have HB1 := Lib.hid hb1
  have HB0 := Lib.hid hb0
  have HK1 := Lib.hid hk1
  have HSj := Lib.hid hs
  clear h hb1 hb0 hk1 hs
  go_enter Tryz.func142, Tryz.ntmps142
  go_wp2_with (first
    | (go_at_call 172; (with_reducible refine (sread_ok 3 k1 k2 k3 k4 ht HB0.out _ (H.out _)).mono ?_); rintro e w1 ⟨rfl, hb⟩; have HB := Lib.hid ((HB1.out _).trans (hb.mono (by simp))); have H1 := Lib.hid ((H.out _).below hb); have c1 := hb.cell (p := ⟨w.heap.size, 1, none⟩) (by simp); simp at c1; clear hb))
  have hw := (Below.refl w1.heap.size w1).drew
  have Hd := Lib.hid (H1.out.below hw)
  have cd : w1.drew.cell? ⟨w.heap.size, 1, none⟩ = some (.int .i64 k1) := by simpa using c1
  have CD := Lib.hid cd
  clear hw cd c1
  go_region_held3 (fun w' => w'.cell? ⟨S, 1, none⟩ = some (.pointer (some ⟨b.P, 0, none⟩)) ∧ w'.cell? ⟨w.heap.size, 1, none⟩ = some (.int .i64 k1)) (first | exact ⟨Hd.out.s1, CD.out⟩ | assumption) (first | (go_at_call 178; (with_reducible refine (pread_at k1 s k j HK1 HSj hk hj hth x hx _ Hd.out.pg).mono ?_); rintro e w2 ⟨rfl, rfl⟩))
  go_wp2_with fail
  go_ret2
  exact ⟨rfl, HB.out.drew⟩
end Go.Proofs.YtncopdhhchmpeaaGreatDoor
namespace Go.Proofs.YtncopdhhchmpeaaGreatDoor
open Go.ChangeShapes Go.WideShapes Go.ChangeAt Go.RowKit
set_option linter.unusedVariables false
/-- A store over a law's start. -/
structure SV (W0 w : World) (S : Nat) (a b : Shp) (th : Nat → Bool) (vr_ : Nat → Int) (W : Nat → Nat → Value) (th2 : Nat → Bool) (vr2 : Nat → Int) (W2 : Nat → Nat → Int) : Prop where
  bel : Below W0.heap.size W0 w
  wb : W0.heap.size ≤ a.b
  st : StAt w S a b th vr_ W th2 vr2 W2
section
variable {W0 w w' : World} {S : Nat} {a b : Shp} {th th' : Nat → Bool} {vr_ vr' : Nat → Int} {W W' : Nat → Nat → Value} {th2 th2' : Nat → Bool} {vr2 vr2' : Nat → Int} {W2 W2' : Nat → Nat → Int}
theorem SV.step (h : SV W0 w S a b th vr_ W th2 vr2 W2) (hb : Below w.heap.size w w') : SV W0 w' S a b th vr_ W th2 vr2 W2 := ⟨h.bel.trans (hb.mono h.bel.size), h.wb, h.st.below hb⟩
theorem SV.node (h : SV W0 w S a b th vr_ W th2 vr2 W2) (hN : NdAt w' a.b a.P a.p a.B a.G a.n a.c th' vr' W') (hb : PBelow w w' a.B a.G) : SV W0 w' S a b th' vr' W' th2 vr2 W2 :=
  ⟨h.bel.trans (hb.below (Nat.le_trans h.wb h.st.nd.ar.lt.1) (Nat.le_trans h.wb (h.st.nd.row.lt a.G rfl).1) h.bel.size), h.wb, h.st.node hN hb⟩
theorem SV.page (h : SV W0 w S a b th vr_ W th2 vr2 W2) (hP : PgAt w' b.b b.P b.p b.B b.G b.n b.c th2' vr2' W2') (hb : PBelow w w' b.B b.G) : SV W0 w' S a b th vr_ W th2' vr2' W2' :=
  ⟨h.bel.trans (hb.below (Nat.le_trans h.wb (Nat.le_trans h.st.ab h.st.pg.ar.lt.1)) (Nat.le_trans h.wb (Nat.le_trans h.st.ab (h.st.pg.row.lt b.G rfl).1)) h.bel.size), h.wb, h.st.page hP hb⟩
end
/-- A key in a block of its own. -/
structure KeyB (w : World) (b : Nat) (k0 k1 k2 k3 k4 : Int) : Prop where
  lt : b < w.heap.size
  c0 : w.cell? ⟨b, 0, none⟩ = some (.int .i64 k0)
  c1 : w.cell? ⟨b, 1, none⟩ = some (.int .i64 k1)
  c2 : w.cell? ⟨b, 2, none⟩ = some (.int .i64 k2)
  c3 : w.cell? ⟨b, 3, none⟩ = some (.int .i64 k3)
  c4 : w.cell? ⟨b, 4, none⟩ = some (.int .u32 k4)
theorem KeyB.same {w w' : World} {b : Nat} {k0 k1 k2 k3 k4 : Int} (h : KeyB w b k0 k1 k2 k3 k4) (hs : w.heap.size ≤ w'.heap.size) (hb : w'.heap[b]? = w.heap[b]?) : KeyB w' b k0 k1 k2 k3 k4 :=
  ⟨Nat.lt_of_lt_of_le h.lt hs, (World.cell?_of_block (a := ⟨b, 0, none⟩) hb).trans h.c0, (World.cell?_of_block (a := ⟨b, 1, none⟩) hb).trans h.c1, (World.cell?_of_block (a := ⟨b, 2, none⟩) hb).trans h.c2, (World.cell?_of_block (a := ⟨b, 3, none⟩) hb).trans h.c3, (World.cell?_of_block (a := ⟨b, 4, none⟩) hb).trans h.c4⟩
theorem KeyB.below {w w' : World} {b : Nat} {k0 k1 k2 k3 k4 : Int} (h : KeyB w b k0 k1 k2 k3 k4) (hb : Below w.heap.size w w') : KeyB w' b k0 k1 k2 k3 k4 := h.same hb.size (hb.block b h.lt)
theorem KeyB.made {w w' : World} {b B G : Nat} {k0 k1 k2 k3 k4 : Int} (h : KeyB w b k0 k1 k2 k3 k4) (hb : PBelow w w' B G) (hB : b ≠ B) (hG : b ≠ G) : KeyB w' b k0 k1 k2 k3 k4 := h.same hb.2.2.2.1 (hb.2.2.2.2 b h.lt hB hG)
theorem KeyB.new (w : World) (k0 k1 k2 k3 k4 : Int) (T : TypeId) : KeyB (w.alloc (.cells #[.int .i64 k0, .int .i64 k1, .int .i64 k2, .int .i64 k3, .int .u32 k4] T (0, 0))) w.heap.size k0 k1 k2 k3 k4 := ⟨by simp, by simp, by simp, by simp, by simp, by simp⟩
end Go.Proofs.YtncopdhhchmpeaaGreatDoor
namespace Go.Proofs.YtncopdhhchmpeaaGreatDoor
open Go.ChangeShapes Go.WideShapes Go.ChangeAt Go.RowKit
set_option linter.unusedVariables false
/-- How many words a key's memory has; 0: none. -/
def szP (k0 k4 : Int) : Int := if k0 = 3 then 32 else if k0 = 2 ∧ 1 ≤ k4 ∧ k4 ≤ 4 then 32 * 16 ^ k4.toNat else 0
def szB (k0 k4 : Int) : Bool := decide (k0 = 3 ∨ (k0 = 2 ∧ 1 ≤ k4 ∧ k4 ≤ 4))
/-- What enter answers. -/
def entP (s : Int) (t l : Bool) (k0 k4 below addr : Int) : Int × Int := if (t && l) = false then (0, 2) else if k0 = 2 ∧ below ≤ k4 then (0, 5) else if s ≤ addr then (0, 3) else (s, 0)
end Go.Proofs.YtncopdhhchmpeaaGreatDoor
namespace Go.Proofs.YtncopdhhchmpeaaGreatDoor
open Go.ChangeShapes Go.WideShapes Go.ChangeAt Go.RowKit
set_option linter.unusedVariables false
theorem sread_right {S : Nat} {a b : Shp} {th : Nat → Bool} {vr_ : Nat → Int} {W : Nat → Nat → Value} {th2 : Nat → Bool} {vr2 : Nat → Int} {W2 : Nat → Nat → Int} (k0 k1 k2 k3 k4 : Int) (ht : Hid (liveB a b th vr_ th2 vr2 k0 k1 k2 = true)) (hb : (bits BinOp.and IntKind.i64 k3 2 == 0) = false) (z : Addr) (w : World) (h : (StAt w S a b th vr_ W th2 vr2 W2)) (hE : w.cell? ⟨8, 0, none⟩ = some (eV z)) (hl : 8 < w.heap.size) :
    Calls Tryz.prog 172 #[.pointer (some ⟨S, 0, none⟩), (Value.agg #[.int .i64 k0, .int .i64 k1, .int .i64 k2, .int .i64 k3, .int .u32 k4]), .int .i64 k0] w fun e w' => e = .returned (eV z) ∧ Below w.heap.size w w' := by
  have hb1 : Below w.heap.size w (w.alloc (.cells #[.int .i64 k0, .int .i64 k1, .int .i64 k2, .int .i64 k3, .int .u32 k4] 42)) := (Below.refl _ _).alloc (Nat.le_refl _) _
  have H := Lib.hid (h.below hb1)
  have HE := Lib.hid ((hb1.cell (p := ⟨8, 0, none⟩) hl).trans hE)
  have HL := Lib.hid (Nat.lt_of_lt_of_le hl hb1.size)
  clear h hE hl hb1
  go_enter Tryz.func172, Tryz.ntmps172
  go_wp2_with (first
    | (go_at_call 66; (with_reducible refine (slive_at k0 k1 k2 k3 k4 true ht _ H.out).mono ?_); rintro e w1 ⟨rfl, hb⟩; have HB := Lib.hid (((Below.refl _ _).alloc (Nat.le_refl _) _ : Below w.heap.size w _).trans (hb.mono (by simp))); have e3 := hb.cell (p := ⟨w.heap.size, 3, none⟩) (by simp); simp at e3; have e1 := (hb.cell (p := ⟨8, 0, none⟩) HL.out).trans HE.out; clear hb))
  go_ret
  exact ⟨rfl, HB.out⟩
theorem swrite_noread {S : Nat} {a b : Shp} {th : Nat → Bool} {vr_ : Nat → Int} {W : Nat → Nat → Value} {th2 : Nat → Bool} {vr2 : Nat → Int} {W2 : Nat → Nat → Int} (k0 k1 k2 k3 k4 : Int) (ht : Hid (liveB a b th vr_ th2 vr2 k0 k1 k2 = true)) (hb0 : (bits BinOp.and IntKind.i64 k3 2 == 0) = false) (z : Addr) (w : World) (h : (StAt w S a b th vr_ W th2 vr2 W2)) (hE : w.cell? ⟨8, 0, none⟩ = some (eV z)) (hl : 8 < w.heap.size) :
    Calls Tryz.prog 179 #[.pointer (some ⟨S, 0, none⟩), (Value.agg #[.int .i64 k0, .int .i64 k1, .int .i64 k2, .int .i64 k3, .int .u32 k4]), .int .i64 k0] w fun e w' => e = .returned (eV z) ∧ Below w.heap.size w w' := by
  have hb1 : Below w.heap.size w (w.alloc (.cells #[.int .i64 k0, .int .i64 k1, .int .i64 k2, .int .i64 k3, .int .u32 k4] 42)) := (Below.refl _ _).alloc (Nat.le_refl _) _
  have H := Lib.hid (h.below hb1)
  have HE := Lib.hid ((hb1.cell (p := ⟨8, 0, none⟩) hl).trans hE)
  have HL := Lib.hid (Nat.lt_of_lt_of_le hl hb1.size)
  have HB0 := Lib.hid hb0
  clear h hE hl hb1 hb0
  go_enter Tryz.func179, Tryz.ntmps179
  go_wp2_with (first
    | (go_at_call 172; (with_reducible refine (sread_right k0 k1 k2 k3 k4 ht HB0.out z _ H.out HE.out HL.out).mono ?_); rintro e w1 ⟨rfl, hb⟩; have HB := Lib.hid (((Below.refl _ _).alloc (Nat.le_refl _) _ : Below w.heap.size w _).trans (hb.mono (by simp))); clear hb))
  go_ret
  exact ⟨rfl, HB.out⟩
theorem swrite_ok {S : Nat} {a b : Shp} {th : Nat → Bool} {vr_ : Nat → Int} {W : Nat → Nat → Value} {th2 : Nat → Bool} {vr2 : Nat → Int} {W2 : Nat → Nat → Int} (k0 k1 k2 k3 k4 : Int) (hm : k0 = 2 ∨ k0 = 3) (ht : Hid (liveB a b th vr_ th2 vr2 k0 k1 k2 = true)) (hb0 : bits BinOp.and IntKind.i64 k3 2 = 0) (hb5 : (bits BinOp.and IntKind.i64 k3 5 == 0) = true) (w : World) (h : (StAt w S a b th vr_ W th2 vr2 W2)) :
    Calls Tryz.prog 179 #[.pointer (some ⟨S, 0, none⟩), (Value.agg #[.int .i64 k0, .int .i64 k1, .int .i64 k2, .int .i64 k3, .int .u32 k4]), .int .i64 k0] w fun e w' => e = .returned .nilIface ∧ Below w.heap.size w w' := by
  have hb1 : Below w.heap.size w (w.alloc (.cells #[.int .i64 k0, .int .i64 k1, .int .i64 k2, .int .i64 k3, .int .u32 k4] 42)) := (Below.refl _ _).alloc (Nat.le_refl _) _
  have H := Lib.hid (h.below hb1)
  have HM := Lib.hid hm
  clear h hb1 hm
  go_enter Tryz.func179, Tryz.ntmps179
  go_wp2_with (first
    | (go_at_call 172; (with_reducible refine (sread_ok k0 k1 k2 k3 k4 ht hb0 _ H.out).mono ?_); rintro e w1 ⟨rfl, hb⟩; have HB := Lib.hid (((Below.refl _ _).alloc (Nat.le_refl _) _ : Below w.heap.size w _).trans (hb.mono (by simp))); have c0 := hb.cell (p := ⟨w.heap.size, 0, none⟩) (by simp); have c1 := hb.cell (p := ⟨w.heap.size, 1, none⟩) (by simp); have c2 := hb.cell (p := ⟨w.heap.size, 2, none⟩) (by simp); have c3 := hb.cell (p := ⟨w.heap.size, 3, none⟩) (by simp); have c4 := hb.cell (p := ⟨w.heap.size, 4, none⟩) (by simp); simp at c0 c1 c2 c3 c4; clear hb)
    | (go_at_call 165; (with_reducible refine (writes_mem k0 k1 k2 k3 k4 HM.out _).mono ?_); rintro e w2 ⟨rfl, hb⟩; have HB2 := Lib.hid (HB.out.trans (hb.mono HB.out.size)); clear hb))
  go_ret
  exact ⟨rfl, HB2.out⟩
theorem swrite_nowrite {S : Nat} {a b : Shp} {th : Nat → Bool} {vr_ : Nat → Int} {W : Nat → Nat → Value} {th2 : Nat → Bool} {vr2 : Nat → Int} {W2 : Nat → Nat → Int} (k0 k1 k2 k3 k4 : Int) (hm : k0 = 2 ∨ k0 = 3) (ht : Hid (liveB a b th vr_ th2 vr2 k0 k1 k2 = true)) (hb0 : bits BinOp.and IntKind.i64 k3 2 = 0) (hb5 : (bits BinOp.and IntKind.i64 k3 5 == 0) = false) (z : Addr) (w : World) (h : (StAt w S a b th vr_ W th2 vr2 W2)) (hE : w.cell? ⟨8, 0, none⟩ = some (eV z)) (hl : 8 < w.heap.size) :
    Calls Tryz.prog 179 #[.pointer (some ⟨S, 0, none⟩), (Value.agg #[.int .i64 k0, .int .i64 k1, .int .i64 k2, .int .i64 k3, .int .u32 k4]), .int .i64 k0] w fun e w' => e = .returned (eV z) ∧ Below w.heap.size w w' := by
  have hb1 : Below w.heap.size w (w.alloc (.cells #[.int .i64 k0, .int .i64 k1, .int .i64 k2, .int .i64 k3, .int .u32 k4] 42)) := (Below.refl _ _).alloc (Nat.le_refl _) _
  have H := Lib.hid (h.below hb1)
  have HM := Lib.hid hm
  have HE := Lib.hid ((hb1.cell (p := ⟨8, 0, none⟩) hl).trans hE)
  have HL := Lib.hid (Nat.lt_of_lt_of_le hl hb1.size)
  clear h hb1 hm hE hl
  go_enter Tryz.func179, Tryz.ntmps179
  go_wp2_with (first
    | (go_at_call 172; (with_reducible refine (sread_ok k0 k1 k2 k3 k4 ht hb0 _ H.out).mono ?_); rintro e w1 ⟨rfl, hb⟩; have HB := Lib.hid (((Below.refl _ _).alloc (Nat.le_refl _) _ : Below w.heap.size w _).trans (hb.mono (by simp))); have HE1 := Lib.hid ((hb.cell (p := ⟨8, 0, none⟩) HL.out).trans HE.out); have HL1 := Lib.hid (Nat.lt_of_lt_of_le HL.out hb.size); have c0 := hb.cell (p := ⟨w.heap.size, 0, none⟩) (by simp); have c1 := hb.cell (p := ⟨w.heap.size, 1, none⟩) (by simp); have c2 := hb.cell (p := ⟨w.heap.size, 2, none⟩) (by simp); have c3 := hb.cell (p := ⟨w.heap.size, 3, none⟩) (by simp); have c4 := hb.cell (p := ⟨w.heap.size, 4, none⟩) (by simp); simp at c0 c1 c2 c3 c4; clear hb)
    | (go_at_call 165; (with_reducible refine (writes_mem k0 k1 k2 k3 k4 HM.out _).mono ?_); rintro e w2 ⟨rfl, hb⟩; have HB2 := Lib.hid (HB.out.trans (hb.mono HB.out.size)); have e2 := (hb.cell (p := ⟨8, 0, none⟩) HL1.out).trans HE1.out; clear hb))
  go_ret
  exact ⟨rfl, HB2.out⟩
/-- A key's cells. -/
structure KeyC (w : World) (b : Nat) (k0 k1 k2 k3 k4 : Int) : Prop where
  lt : b < w.heap.size
  c0 : w.cell? ⟨b, 0, none⟩ = some (.int .i64 k0)
  c1 : w.cell? ⟨b, 1, none⟩ = some (.int .i64 k1)
  c2 : w.cell? ⟨b, 2, none⟩ = some (.int .i64 k2)
  c3 : w.cell? ⟨b, 3, none⟩ = some (.int .i64 k3)
  c4 : w.cell? ⟨b, 4, none⟩ = some (.int .u32 k4)
  fr : ∀ j, w.frozen? ⟨b, j, none⟩ = false
theorem KeyC.below {w w' : World} {b : Nat} {k0 k1 k2 k3 k4 : Int} (h : KeyC w b k0 k1 k2 k3 k4) (hb : Below w.heap.size w w') : KeyC w' b k0 k1 k2 k3 k4 :=
  ⟨Nat.lt_of_lt_of_le h.lt hb.size, (hb.cell (p := ⟨b, 0, none⟩) h.lt).trans h.c0, (hb.cell (p := ⟨b, 1, none⟩) h.lt).trans h.c1, (hb.cell (p := ⟨b, 2, none⟩) h.lt).trans h.c2, (hb.cell (p := ⟨b, 3, none⟩) h.lt).trans h.c3, (hb.cell (p := ⟨b, 4, none⟩) h.lt).trans h.c4, fun j => (hb.frozen (p := ⟨b, j, none⟩) h.lt).trans (h.fr j)⟩
theorem KeyC.new (w : World) (k0 k1 k2 k3 k4 : Int) (T : TypeId) : KeyC (w.alloc (.cells #[.int .i64 k0, .int .i64 k1, .int .i64 k2, .int .i64 k3, .int .u32 k4] T (0, 0))) w.heap.size k0 k1 k2 k3 k4 := ⟨by simp, by simp, by simp, by simp, by simp, by simp, fun j => by simp⟩
theorem KeyC.of {w w' : World} {k0 k1 k2 k3 k4 : Int} {T : TypeId} {o : Obj} (hb : Below ((w.alloc (.cells #[.int .i64 k0, .int .i64 k1, .int .i64 k2, .int .i64 k3, .int .u32 k4] T (0, 0))).alloc o).heap.size ((w.alloc (.cells #[.int .i64 k0, .int .i64 k1, .int .i64 k2, .int .i64 k3, .int .u32 k4] T (0, 0))).alloc o) w') : KeyC w' w.heap.size k0 k1 k2 k3 k4 :=
  (((KeyC.new w k0 k1 k2 k3 k4 T).below ((Below.refl _ _).alloc (Nat.le_refl _) o))).below hb
theorem KeyC.of2 {w w' : World} {k0 k1 k2 k3 k4 : Int} {T : TypeId} {o : Obj} (hb : Below ((w.alloc o).alloc (.cells #[.int .i64 k0, .int .i64 k1, .int .i64 k2, .int .i64 k3, .int .u32 k4] T (0, 0))).heap.size ((w.alloc o).alloc (.cells #[.int .i64 k0, .int .i64 k1, .int .i64 k2, .int .i64 k3, .int .u32 k4] T (0, 0))) w') : KeyC w' (w.heap.size + 1) k0 k1 k2 k3 k4 := by
  have h := (KeyC.new (w.alloc o) k0 k1 k2 k3 k4 T).below hb
  have e : (w.alloc o).heap.size = w.heap.size + 1 := by simp
  rw [e] at h
  exact h
theorem KeyC.set {w : World} {b : Nat} {y0 y1 y2 y3 y4 : Int} (h : KeyC w b y0 y1 y2 y3 y4) (z0 z1 z2 z3 z4 : Int) :
    KeyC (((((w.setCell ⟨b, 0, none⟩ (.int .i64 z0)).setCell ⟨b, 1, none⟩ (.int .i64 z1)).setCell ⟨b, 2, none⟩ (.int .i64 z2)).setCell ⟨b, 3, none⟩ (.int .i64 z3)).setCell ⟨b, 4, none⟩ (.int .u32 z4)) b z0 z1 z2 z3 z4 := by
  have hs : ∀ j, j < (k5 z0 z1 z2 z3 z4).length → (w.cell? ⟨b, 0 + j, none⟩).isSome = true := by
    intro j hj
    have hj' : j = 0 ∨ j = 1 ∨ j = 2 ∨ j = 3 ∨ j = 4 := by simp [k5] at hj; omega
    rw [Nat.zero_add]
    rcases hj' with rfl | rfl | rfl | rfl | rfl
    · rw [h.c0]; rfl
    · rw [h.c1]; rfl
    · rw [h.c2]; rfl
    · rw [h.c3]; rfl
    · rw [h.c4]; rfl
  have all := World.cell?_setCells_in b (k5 z0 z1 z2 z3 z4) 0 w hs
  have hz : (w.setCells b 0 (k5 z0 z1 z2 z3 z4)).heap.size = w.heap.size := by simp [k5, World.setCells]
  exact ⟨Nat.lt_of_lt_of_le h.lt (Nat.le_of_eq hz.symm), all 0 (by simp [k5]), all 1 (by simp [k5]), all 2 (by simp [k5]), all 3 (by simp [k5]), all 4 (by simp [k5]), fun j => (World.frozen?_setCells b (k5 z0 z1 z2 z3 z4) 0 w ⟨b, j, none⟩).trans (h.fr j)⟩
section
variable {w X Y : World} {S P : Nat} {k1 : Int}
end
set_option maxRecDepth 100000 in
set_option maxHeartbeats 2000000 in
theorem sfetch_ok {S : Nat} {a b : Shp} {th : Nat → Bool} {vr_ : Nat → Int} {W : Nat → Nat → Value} {th2 : Nat → Bool} {vr2 : Nat → Int} {W2 : Nat → Nat → Int} (k1 : Int) (k : Nat) (k2 k3 k4 s : Int) (j : Nat) (hk1 : k1 = k) (hs : s = j) (hk : k < a.n) (hj : j < 16) (hth : Hid (th k = true)) (ht : Hid (liveB a b th vr_ th2 vr2 2 k1 k2 = true)) (hb0 : bits BinOp.and IntKind.i64 k3 2 = 0) (y0 y1 y2 y3 y4 r0 r1 r2 r3 r4 : Int) (hy : Hid (KAt (W k) j y0 y1 y2 y3 y4))
    (hT : Hid (∀ w, Calls Tryz.prog 174 #[.int .i64 k3, (Value.agg #[.int .i64 y0, .int .i64 y1, .int .i64 y2, .int .i64 y3, .int .u32 y4])] w fun e w' => e = .returned (Value.agg #[.int .i64 r0, .int .i64 r1, .int .i64 r2, .int .i64 r3, .int .u32 r4]) ∧ Below w.heap.size w w')) (w : World) (h : (StAt w S a b th vr_ W th2 vr2 W2)) :
    Calls Tryz.prog 134 #[.pointer (some ⟨S, 0, none⟩), (.agg #[.int .i64 2, .int .i64 k1, .int .i64 k2, .int .i64 k3, .int .u32 k4]), .int .i64 s] w fun e w' => e = .returned (.tuple #[(Value.agg #[.int .i64 r0, .int .i64 r1, .int .i64 r2, .int .i64 r3, .int .u32 r4]), .nilIface]) ∧ Below w.heap.size w w' := by
  have hb1 : ∀ o o', Below w.heap.size w ((w.alloc o).alloc o') := fun o o' => ((Below.refl _ _).alloc (Nat.le_refl _) _ : Below w.heap.size w (w.alloc o)).alloc (by simp) o'
  have H := Lib.hid (fun o o' => h.below (hb1 o o'))
  have HB1 := Lib.hid hb1
  have HB0 := Lib.hid hb0
  have HK1 := Lib.hid hk1
  have HSj := Lib.hid hs
  have g0 : Hid (W k (j * 5) = .int .i64 y0) := Lib.hid hy.out.1
  have g1 : Hid (W k (j * 5 + 1) = .int .i64 y1) := Lib.hid hy.out.2.1
  have g2 : Hid (W k (j * 5 + 2) = .int .i64 y2) := Lib.hid hy.out.2.2.1
  have g3 : Hid (W k (j * 5 + 3) = .int .i64 y3) := Lib.hid hy.out.2.2.2.1
  have g4 : Hid (W k (j * 5 + 4) = .int .u32 y4) := Lib.hid hy.out.2.2.2.2
  clear h hb1 hb0 hk1 hs
  go_enter Tryz.func134, Tryz.ntmps134
  go_upto_region 4 with (first
    | (go_at_call 172; (with_reducible refine (sread_ok 2 k1 k2 k3 k4 ht HB0.out _ (H.out _ _)).mono ?_); rintro e w1 ⟨rfl, hb⟩; have HB := Lib.hid ((HB1.out _ _).trans (hb.mono (by simp; omega))); have H1 := Lib.hid ((H.out _ _).below hb); have HK0 : Hid (KeyC w1 w.heap.size 2 k1 k2 k3 k4) := Lib.hid (KeyC.of hb); have HZ0 : Hid (KeyC w1 (w.heap.size + 1) 0 0 0 0 0) := Lib.hid (KeyC.of2 hb); clear hb))
  go_cut [9, 10] (fun u o wx => ∃ bx : Nat, u = .pointer (some ⟨bx, 0, none⟩) ∧ o = .bool true ∧ Below w.heap.size w wx ∧ (StAt wx S a b th vr_ W th2 vr2 W2) ∧ KeyC wx bx y0 y1 y2 y3 y4 ∧ KeyC wx w.heap.size 2 k1 k2 k3 k4 ∧ KeyC wx (w.heap.size + 1) 0 0 0 0 0 ∧ w.heap.size + 2 ≤ bx)
  case first =>
    have Hs := Lib.hid H1.out.s0
    have Hk := Lib.hid HK0.out.c1
    have hs := Hs.out
    have hk1' := Hk.out
    have hA : ∀ o, World.cell? (w1.alloc o) ⟨S, 0, none⟩ = some (.pointer (some ⟨a.P, 0, none⟩)) := fun o => (H1.out.below ((Below.refl w1.heap.size w1).alloc (Nat.le_refl _) o)).s0
    have hA' : ∀ o, World.cell? (w1.alloc o) ⟨w.heap.size, 1, none⟩ = some (.int .i64 k1) := fun o => (HK0.out.below ((Below.refl w1.heap.size w1).alloc (Nat.le_refl _) o)).c1
    have hs1 := hA (.cells #[.int .i64 0, .int .i64 0, .int .i64 0, .int .i64 0, .int .u32 0] 42 (0, 0))
    have hs2 := hA' (.cells #[.int .i64 0, .int .i64 0, .int .i64 0, .int .i64 0, .int .u32 0] 42 (0, 0))
    clear hA hA'
    have hl1 := HK0.out.lt
    go_region_with (first | (go_at_call 173; (with_reducible refine (nget_at k1 s k j HK1 HSj hk hj hth y0 y1 y2 y3 y4 g0 g1 g2 g3 g4 _ (H1.out.below (Below.refl w1.heap.size w1).drew).nd).mono ?_); rintro e w2 ⟨rfl, hb⟩; have HBB := Lib.hid hb; clear hb) | (go_at_call 173; (with_reducible refine (nget_at k1 s k j HK1 HSj hk hj hth y0 y1 y2 y3 y4 g0 g1 g2 g3 g4 _ (H1.out.below ((Below.refl w1.heap.size w1).alloc (Nat.le_refl _) _).drew).nd).mono ?_); rintro e w2 ⟨rfl, hb⟩; have HBA := Lib.hid hb; have hKB := ((KeyC.new w1 0 0 0 0 0 42).below (Below.refl _ _).drew).below hb; have kc0 := hKB.c0; have kc1 := hKB.c1; have kc2 := hKB.c2; have kc3 := hKB.c3; have kc4 := hKB.c4; have kf0 := hKB.fr 0; have kf1 := hKB.fr 1; have kf2 := hKB.fr 2; have kf3 := hKB.fr 3; have kf4 := hKB.fr 4; have HKB := Lib.hid hKB; clear hb hKB))
    all_goals (go_wp2_with fail; go_meet; clear hs1 hs2 hs hk1'; have hz := HB.out.size; have hz2 : w.heap.size + 2 ≤ w1.heap.size := Nat.succ_le_of_lt HZ0.out.lt)
    all_goals (first
      | (have hb := ((Below.refl w1.heap.size w1).drew.trans (HBB.out.mono (by simp))).alloc (Nat.le_trans HBB.out.size (Nat.le_refl _)) (.cells #[.int .i64 y0, .int .i64 y1, .int .i64 y2, .int .i64 y3, .int .u32 y4] 42 (0, 0)); exact ⟨_, rfl, rfl, HB.out.trans (hb.mono hz), H1.out.below hb, KeyC.new _ y0 y1 y2 y3 y4 _, HK0.out.below hb, HZ0.out.below hb, Nat.le_trans hz2 HBB.out.size⟩)
      | (have hb := below_set5 ((((Below.refl w1.heap.size w1).alloc (Nat.le_refl _) _).drew).trans (HBA.out.mono (by simp))) (Nat.le_refl _) y0 y1 y2 y3 y4; exact ⟨_, rfl, rfl, HB.out.trans (hb.mono hz), H1.out.below hb, HKB.out.set y0 y1 y2 y3 y4, HK0.out.below hb, HZ0.out.below hb, hz2⟩))
  case rest =>
    obtain ⟨bx, rfl, rfl, hb, h, ky, kk, kz, hl⟩ := hcut
    have q0 := ky.c0
    have q1 := ky.c1
    have q2 := ky.c2
    have q3 := ky.c3
    have q4 := ky.c4
    have kk3 := kk.c3
    have HC := Lib.hid hb
    have HZ := Lib.hid kz
    clear hb h ky kk kz hl
    go_wp2_with (first
      | (go_at_call 174; (with_reducible refine (hT.out _).mono ?_); rintro e w3 ⟨rfl, hb3⟩; have z := HZ.out.below hb3; have z0 := z.c0; have z1 := z.c1; have z2 := z.c2; have z3 := z.c3; have z4 := z.c4; have f0 := z.fr 0; have f1 := z.fr 1; have f2 := z.fr 2; have f3 := z.fr 3; have f4 := z.fr 4; have HC3 := Lib.hid (HC.out.trans (hb3.mono HC.out.size)); have HZ3 := Lib.hid z; clear z hb3))
    have t := HZ3.out.set r0 r1 r2 r3 r4
    have t0 := t.c0
    have t1 := t.c1
    have t2 := t.c2
    have t3 := t.c3
    have t4 := t.c4
    (try simp only [Exit.inBlock, Exit.then])
    refine bodyPost_ret (v := .tuple #[(Value.agg #[.int .i64 r0, .int .i64 r1, .int .i64 r2, .int .i64 r3, .int .u32 r4]), .nilIface]) ?_ rfl ?_
    · simp [results, go_sem, t0, t1, t2, t3, t4]
    · exact ⟨rfl, below_set5 HC3.out (Nat.le_succ _) r0 r1 r2 r3 r4⟩
set_option maxHeartbeats 1000000 in
theorem sfetch_right {S : Nat} {a b : Shp} {th : Nat → Bool} {vr_ : Nat → Int} {W : Nat → Nat → Value} {th2 : Nat → Bool} {vr2 : Nat → Int} {W2 : Nat → Nat → Int} (k1 k2 k3 k4 s : Int) (ht : Hid (liveB a b th vr_ th2 vr2 2 k1 k2 = true)) (hb0 : Hid ((bits BinOp.and IntKind.i64 k3 2 == 0) = false)) (z : Addr) (w : World) (h : (StAt w S a b th vr_ W th2 vr2 W2)) (hE : w.cell? ⟨8, 0, none⟩ = some (eV z)) (hl : 8 < w.heap.size) :
    Calls Tryz.prog 134 #[.pointer (some ⟨S, 0, none⟩), .agg #[.int .i64 2, .int .i64 k1, .int .i64 k2, .int .i64 k3, .int .u32 k4], .int .i64 s] w fun e w' => e = .returned (.tuple #[.agg #[.int .i64 0, .int .i64 0, .int .i64 0, .int .i64 0, .int .u32 0], eV z]) ∧ Below w.heap.size w w' := by
  have hb1 : ∀ o o', Below w.heap.size w ((w.alloc o).alloc o') := fun o o' => ((Below.refl _ _).alloc (Nat.le_refl _) _ : Below w.heap.size w (w.alloc o)).alloc (by simp) o'
  have H := Lib.hid (fun o o' => h.below (hb1 o o'))
  have HE := Lib.hid (fun o o' => ((hb1 o o').cell (p := ⟨8, 0, none⟩) hl).trans hE)
  have HL := Lib.hid (fun o o' => Nat.lt_of_lt_of_le hl (hb1 o o').size)
  have HB1 := Lib.hid hb1
  clear h hE hl hb1
  go_enter Tryz.func134, Tryz.ntmps134
  go_wp2_with (first
    | (go_at_call 172; (with_reducible refine (sread_right 2 k1 k2 k3 k4 ht hb0.out z _ (H.out _ _) (HE.out _ _) (HL.out _ _)).mono ?_); rintro e w1 ⟨rfl, hb⟩; have HB := Lib.hid ((HB1.out _ _).trans (hb.mono (by simp; omega))); have c0 := hb.cell (p := ⟨w.heap.size + 1, 0, none⟩) (by simp); have c1 := hb.cell (p := ⟨w.heap.size + 1, 1, none⟩) (by simp); have c2 := hb.cell (p := ⟨w.heap.size + 1, 2, none⟩) (by simp); have c3 := hb.cell (p := ⟨w.heap.size + 1, 3, none⟩) (by simp); have c4 := hb.cell (p := ⟨w.heap.size + 1, 4, none⟩) (by simp); have z0 := hb.frozen (p := ⟨w.heap.size + 1, 0, none⟩) (by simp); have z1 := hb.frozen (p := ⟨w.heap.size + 1, 1, none⟩) (by simp); have z2 := hb.frozen (p := ⟨w.heap.size + 1, 2, none⟩) (by simp); have z3 := hb.frozen (p := ⟨w.heap.size + 1, 3, none⟩) (by simp); have z4 := hb.frozen (p := ⟨w.heap.size + 1, 4, none⟩) (by simp); simp at c0 c1 c2 c3 c4 z0 z1 z2 z3 z4; clear hb))
  have hX := kcell5 (W := w1) (b := w.heap.size + 1) 0 0 0 0 0 ⟨_, c0⟩ ⟨_, c1⟩ ⟨_, c2⟩ ⟨_, c3⟩ ⟨_, c4⟩
  obtain ⟨d0, d1, d2, d3, d4⟩ := hX
  refine bodyPost_ret (v := .tuple #[.agg #[.int .i64 0, .int .i64 0, .int .i64 0, .int .i64 0, .int .u32 0], eV z]) (by simp [results, Tryz.results134, go_sem, d0, d1, d2, d3, d4]) rfl ⟨rfl, below_set5 HB.out (by omega) _ _ _ _ _⟩
set_option maxHeartbeats 1000000 in
theorem sswap_right {S : Nat} {a b : Shp} {th : Nat → Bool} {vr_ : Nat → Int} {W : Nat → Nat → Value} {th2 : Nat → Bool} {vr2 : Nat → Int} {W2 : Nat → Nat → Int} (k1 k2 k3 k4 s x0 x1 x2 x3 x4 : Int) (ht : Hid (liveB a b th vr_ th2 vr2 2 k1 k2 = true)) (hb0 : Hid ((bits BinOp.and IntKind.i64 k3 2 == 0) = false)) (z : Addr) (w : World) (h : (StAt w S a b th vr_ W th2 vr2 W2)) (hE : w.cell? ⟨8, 0, none⟩ = some (eV z)) (hl : 8 < w.heap.size) :
    Calls Tryz.prog 175 #[.pointer (some ⟨S, 0, none⟩), .agg #[.int .i64 2, .int .i64 k1, .int .i64 k2, .int .i64 k3, .int .u32 k4], .int .i64 s, (Value.agg #[.int .i64 x0, .int .i64 x1, .int .i64 x2, .int .i64 x3, .int .u32 x4])] w fun e w' => e = .returned (.tuple #[.agg #[.int .i64 0, .int .i64 0, .int .i64 0, .int .i64 0, .int .u32 0], eV z]) ∧ Below w.heap.size w w' := by
  have hb1 : ∀ o o' o2, Below w.heap.size w (((w.alloc o).alloc o').alloc o2) := fun o o' o2 => (((Below.refl _ _).alloc (Nat.le_refl _) _ : Below w.heap.size w (w.alloc o)).alloc (by simp) o').alloc (by simp; omega) o2
  have H := Lib.hid (fun o o' o2 => h.below (hb1 o o' o2))
  have HE := Lib.hid (fun o o' o2 => ((hb1 o o' o2).cell (p := ⟨8, 0, none⟩) hl).trans hE)
  have HL := Lib.hid (fun o o' o2 => Nat.lt_of_lt_of_le hl (hb1 o o' o2).size)
  have HB1 := Lib.hid hb1
  clear h hE hl hb1
  go_enter Tryz.func175, Tryz.ntmps175
  go_wp2_with (first
    | (go_at_call 179; (with_reducible refine (swrite_noread 2 k1 k2 k3 k4 ht hb0.out z _ (H.out _ _ _) (HE.out _ _ _) (HL.out _ _ _)).mono ?_); rintro e w1 ⟨rfl, hb⟩; have HB := Lib.hid ((HB1.out _ _ _).trans (hb.mono (HB1.out _ _ _).size)); have c0 := (hb.cell (p := ⟨w.heap.size + 1 + 1, 0, none⟩) (new3 w _ _ _ _ 0).2.2).trans (new3 w _ _ _ _ 0).1; have c1 := (hb.cell (p := ⟨w.heap.size + 1 + 1, 1, none⟩) (new3 w _ _ _ _ 1).2.2).trans (new3 w _ _ _ _ 1).1; have c2 := (hb.cell (p := ⟨w.heap.size + 1 + 1, 2, none⟩) (new3 w _ _ _ _ 2).2.2).trans (new3 w _ _ _ _ 2).1; have c3 := (hb.cell (p := ⟨w.heap.size + 1 + 1, 3, none⟩) (new3 w _ _ _ _ 3).2.2).trans (new3 w _ _ _ _ 3).1; have c4 := (hb.cell (p := ⟨w.heap.size + 1 + 1, 4, none⟩) (new3 w _ _ _ _ 4).2.2).trans (new3 w _ _ _ _ 4).1; have z0 := (hb.frozen (p := ⟨w.heap.size + 1 + 1, 0, none⟩) (new3 w _ _ _ _ 0).2.2).trans (new3 w _ _ _ _ 0).2.1; have z1 := (hb.frozen (p := ⟨w.heap.size + 1 + 1, 1, none⟩) (new3 w _ _ _ _ 1).2.2).trans (new3 w _ _ _ _ 1).2.1; have z2 := (hb.frozen (p := ⟨w.heap.size + 1 + 1, 2, none⟩) (new3 w _ _ _ _ 2).2.2).trans (new3 w _ _ _ _ 2).2.1; have z3 := (hb.frozen (p := ⟨w.heap.size + 1 + 1, 3, none⟩) (new3 w _ _ _ _ 3).2.2).trans (new3 w _ _ _ _ 3).2.1; have z4 := (hb.frozen (p := ⟨w.heap.size + 1 + 1, 4, none⟩) (new3 w _ _ _ _ 4).2.2).trans (new3 w _ _ _ _ 4).2.1; simp at c0 c1 c2 c3 c4; clear hb))
  have hX := kcell5 (W := w1) (b := w.heap.size + 1 + 1) 0 0 0 0 0 ⟨_, c0⟩ ⟨_, c1⟩ ⟨_, c2⟩ ⟨_, c3⟩ ⟨_, c4⟩
  obtain ⟨d0, d1, d2, d3, d4⟩ := hX
  refine bodyPost_ret (v := .tuple #[.agg #[.int .i64 0, .int .i64 0, .int .i64 0, .int .i64 0, .int .u32 0], eV z]) (by simp [results, Tryz.results175, go_sem, d0, d1, d2, d3, d4]) rfl ⟨rfl, below_set5 HB.out (by omega) _ _ _ _ _⟩
set_option maxHeartbeats 1000000 in
theorem sswap_nowrite {S : Nat} {a b : Shp} {th : Nat → Bool} {vr_ : Nat → Int} {W : Nat → Nat → Value} {th2 : Nat → Bool} {vr2 : Nat → Int} {W2 : Nat → Nat → Int} (k1 k2 k3 k4 s x0 x1 x2 x3 x4 : Int) (ht : Hid (liveB a b th vr_ th2 vr2 2 k1 k2 = true)) (hb0 : Hid (bits BinOp.and IntKind.i64 k3 2 = 0)) (hb5 : Hid ((bits BinOp.and IntKind.i64 k3 5 == 0) = false)) (z : Addr) (w : World) (h : (StAt w S a b th vr_ W th2 vr2 W2)) (hE : w.cell? ⟨8, 0, none⟩ = some (eV z)) (hl : 8 < w.heap.size) :
    Calls Tryz.prog 175 #[.pointer (some ⟨S, 0, none⟩), .agg #[.int .i64 2, .int .i64 k1, .int .i64 k2, .int .i64 k3, .int .u32 k4], .int .i64 s, (Value.agg #[.int .i64 x0, .int .i64 x1, .int .i64 x2, .int .i64 x3, .int .u32 x4])] w fun e w' => e = .returned (.tuple #[.agg #[.int .i64 0, .int .i64 0, .int .i64 0, .int .i64 0, .int .u32 0], eV z]) ∧ Below w.heap.size w w' := by
  have hb1 : ∀ o o' o2, Below w.heap.size w (((w.alloc o).alloc o').alloc o2) := fun o o' o2 => (((Below.refl _ _).alloc (Nat.le_refl _) _ : Below w.heap.size w (w.alloc o)).alloc (by simp) o').alloc (by simp; omega) o2
  have H := Lib.hid (fun o o' o2 => h.below (hb1 o o' o2))
  have HE := Lib.hid (fun o o' o2 => ((hb1 o o' o2).cell (p := ⟨8, 0, none⟩) hl).trans hE)
  have HL := Lib.hid (fun o o' o2 => Nat.lt_of_lt_of_le hl (hb1 o o' o2).size)
  have HB1 := Lib.hid hb1
  clear h hE hl hb1
  go_enter Tryz.func175, Tryz.ntmps175
  go_wp2_with (first
    | (go_at_call 179; (with_reducible refine (swrite_nowrite 2 k1 k2 k3 k4 (Or.inl rfl) ht hb0.out hb5.out z _ (H.out _ _ _) (HE.out _ _ _) (HL.out _ _ _)).mono ?_); rintro e w1 ⟨rfl, hb⟩; have HB := Lib.hid ((HB1.out _ _ _).trans (hb.mono (HB1.out _ _ _).size)); have c0 := (hb.cell (p := ⟨w.heap.size + 1 + 1, 0, none⟩) (new3 w _ _ _ _ 0).2.2).trans (new3 w _ _ _ _ 0).1; have c1 := (hb.cell (p := ⟨w.heap.size + 1 + 1, 1, none⟩) (new3 w _ _ _ _ 1).2.2).trans (new3 w _ _ _ _ 1).1; have c2 := (hb.cell (p := ⟨w.heap.size + 1 + 1, 2, none⟩) (new3 w _ _ _ _ 2).2.2).trans (new3 w _ _ _ _ 2).1; have c3 := (hb.cell (p := ⟨w.heap.size + 1 + 1, 3, none⟩) (new3 w _ _ _ _ 3).2.2).trans (new3 w _ _ _ _ 3).1; have c4 := (hb.cell (p := ⟨w.heap.size + 1 + 1, 4, none⟩) (new3 w _ _ _ _ 4).2.2).trans (new3 w _ _ _ _ 4).1; have z0 := (hb.frozen (p := ⟨w.heap.size + 1 + 1, 0, none⟩) (new3 w _ _ _ _ 0).2.2).trans (new3 w _ _ _ _ 0).2.1; have z1 := (hb.frozen (p := ⟨w.heap.size + 1 + 1, 1, none⟩) (new3 w _ _ _ _ 1).2.2).trans (new3 w _ _ _ _ 1).2.1; have z2 := (hb.frozen (p := ⟨w.heap.size + 1 + 1, 2, none⟩) (new3 w _ _ _ _ 2).2.2).trans (new3 w _ _ _ _ 2).2.1; have z3 := (hb.frozen (p := ⟨w.heap.size + 1 + 1, 3, none⟩) (new3 w _ _ _ _ 3).2.2).trans (new3 w _ _ _ _ 3).2.1; have z4 := (hb.frozen (p := ⟨w.heap.size + 1 + 1, 4, none⟩) (new3 w _ _ _ _ 4).2.2).trans (new3 w _ _ _ _ 4).2.1; simp at c0 c1 c2 c3 c4; clear hb))
  have hX := kcell5 (W := w1) (b := w.heap.size + 1 + 1) 0 0 0 0 0 ⟨_, c0⟩ ⟨_, c1⟩ ⟨_, c2⟩ ⟨_, c3⟩ ⟨_, c4⟩
  obtain ⟨d0, d1, d2, d3, d4⟩ := hX
  refine bodyPost_ret (v := .tuple #[.agg #[.int .i64 0, .int .i64 0, .int .i64 0, .int .i64 0, .int .u32 0], eV z]) (by simp [results, Tryz.results175, go_sem, d0, d1, d2, d3, d4]) rfl ⟨rfl, below_set5 HB.out (by omega) _ _ _ _ _⟩
end Go.Proofs.YtncopdhhchmpeaaGreatDoor
namespace Go.Proofs.YtncopdhhchmpeaaGreatDoor
open Go.ChangeShapes Go.WideShapes Go.ChangeAt Go.RowKit
set_option linter.unusedVariables false
set_option linter.unusedSimpArgs false
/-- What rights make read-only. -/
def roB (k3 : Int) : Bool := bits BinOp.and IntKind.i64 k3 5 != 0
/-- A way: from a key, found below such a height, to a place or a fault, through nodes. -/
inductive Way (a b : Shp) (th : Nat → Bool) (vr_ : Nat → Int) (W : Nat → Nat → Value) (th2 : Nat → Bool) (vr2 : Nat → Int) : Int → Int → Int → Int → Int → Int → Int → Bool → List Int → Int → Int → Bool → Int → Prop
  | fault {k0 k1 k2 k3 k4 below addr : Int} {ro : Bool} (s : Int) (t l : Bool) (f : Int) (h0 : 0 ≤ k4) (hs : szP k0 k4 = s ∧ szB k0 k4 = t) (hl : liveB a b th vr_ th2 vr2 k0 k1 k2 = l) (hz : entP s t l k0 k4 below addr = (0, f)) (hf : (f != 0) = true) : Way a b th vr_ W th2 vr2 k0 k1 k2 k3 k4 below addr ro [] 0 0 false f
  | page {k1 k2 k3 k4 below addr : Int} {ro : Bool} (h0 : 0 ≤ k4) (a0 : 0 ≤ addr) (hl : liveB a b th vr_ th2 vr2 3 k1 k2 = true) (ha : addr < 32) : Way a b th vr_ W th2 vr2 3 k1 k2 k3 k4 below addr ro [] k1 addr (ro || roB k3) 0
  | node {k1 k2 k3 k4 below addr : Int} {ro : Bool} {ids : List Int} {pg at_ : Int} {r : Bool} {f : Int} (h i q r' p ad : Nat) (y0 y1 y2 y3 y4 : Int) (hk : k4 = h) (hp : p = 2 * 16 ^ h) (ha : addr = ad) (had : ad = q * p + r') (h1 : 1 ≤ h) (h4 : h ≤ 4) (hl : liveB a b th vr_ th2 vr2 2 k1 k2 = true) (hd : (h : Int) < below) (hi : k1 = i) (hn : i < a.n) (ht : th i = true) (hq : q < 16) (hr : r' < p) (hy : KAt (W i) q y0 y1 y2 y3 y4) (next : Way a b th vr_ W th2 vr2 y0 y1 y2 y3 y4 h r' (ro || roB k3) ids pg at_ r f) : Way a b th vr_ W th2 vr2 2 k1 k2 k3 k4 below addr ro (k1 :: ids) pg at_ r f
/-- A place's cells. -/
structure PlC (w : World) (b : Nat) (x y : Int) (r : Bool) : Prop where
  lt : b < w.heap.size
  c0 : w.cell? ⟨b, 0, none⟩ = some (.int .i64 x)
  c1 : w.cell? ⟨b, 1, none⟩ = some (.int .i64 y)
  c2 : w.cell? ⟨b, 2, none⟩ = some (.bool r)
  fr : ∀ j, w.frozen? ⟨b, j, none⟩ = false
theorem PlC.below {w w' : World} {b : Nat} {x y : Int} {r : Bool} (h : PlC w b x y r) (hb : Below w.heap.size w w') : PlC w' b x y r :=
  ⟨Nat.lt_of_lt_of_le h.lt hb.size, (hb.cell (p := ⟨b, 0, none⟩) h.lt).trans h.c0, (hb.cell (p := ⟨b, 1, none⟩) h.lt).trans h.c1, (hb.cell (p := ⟨b, 2, none⟩) h.lt).trans h.c2, fun j => (hb.frozen (p := ⟨b, j, none⟩) h.lt).trans (h.fr j)⟩
theorem PlC.new (w : World) (x y : Int) (r : Bool) (T : TypeId) : PlC (w.alloc (.cells #[.int .i64 x, .int .i64 y, .bool r] T (0, 0))) w.heap.size x y r := ⟨by simp, by simp, by simp, by simp, fun j => by simp⟩
theorem PlC.set {w : World} {b : Nat} {x y : Int} {r : Bool} (h : PlC w b x y r) (x' y' : Int) (r' : Bool) : PlC (((w.setCell ⟨b, 0, none⟩ (.int .i64 x')).setCell ⟨b, 1, none⟩ (.int .i64 y')).setCell ⟨b, 2, none⟩ (.bool r')) b x' y' r' := by
  have hs : ∀ j, j < [Value.int .i64 x', .int .i64 y', .bool r'].length → (w.cell? ⟨b, 0 + j, none⟩).isSome = true := by
    intro j hj
    have hj' : j = 0 ∨ j = 1 ∨ j = 2 := by simp at hj; omega
    rw [Nat.zero_add]
    rcases hj' with rfl | rfl | rfl
    · rw [h.c0]; rfl
    · rw [h.c1]; rfl
    · rw [h.c2]; rfl
  have all := World.cell?_setCells_in b [Value.int .i64 x', .int .i64 y', .bool r'] 0 w hs
  have hz : (w.setCells b 0 [Value.int .i64 x', .int .i64 y', .bool r']).heap.size = w.heap.size := by simp [World.setCells]
  exact ⟨Nat.lt_of_lt_of_le h.lt (Nat.le_of_eq hz.symm), all 0 (by simp), all 1 (by simp), all 2 (by simp), fun j => (World.frozen?_setCells b [Value.int .i64 x', .int .i64 y', .bool r'] 0 w ⟨b, j, none⟩).trans (h.fr j)⟩
theorem KeyC.new3 (w : World) (o o' : Obj) (k0 k1 k2 k3 k4 : Int) (T : TypeId) : KeyC (((w.alloc o).alloc o').alloc (.cells #[.int .i64 k0, .int .i64 k1, .int .i64 k2, .int .i64 k3, .int .u32 k4] T (0, 0))) (w.heap.size + 1 + 1) k0 k1 k2 k3 k4 := by
  have h := KeyC.new ((w.alloc o).alloc o') k0 k1 k2 k3 k4 T
  rw [show ((w.alloc o).alloc o').heap.size = w.heap.size + 1 + 1 by simp] at h
  exact h
end Go.Proofs.YtncopdhhchmpeaaGreatDoor
namespace Go.Proofs.YtncopdhhchmpeaaGreatDoor
open Go.ChangeShapes Go.WideShapes Go.ChangeAt Go.RowKit
set_option linter.unusedVariables false
/-- A block that is made is a row of one's own. -/
theorem own_box (w : World) (base : Nat) (cs : Array Value) (T : TypeId) (s : Nat) (xs : List Value) (hx : cs.toList = xs) (hs : cs.size = s) (hb : base ≤ w.heap.size) : (w.alloc (.cells cs T (0, 0))).ownsRow base T s (.slice (some ⟨w.heap.size, 0, none⟩) 1 1) 1 xs := by
  refine ⟨by rw [← hx, Array.length_toList, hs, Nat.one_mul], .inr ⟨w.heap.size, 1, cs, rfl, hb, heap_alloc_new _ _, Nat.le_refl _, by unfold maxLen; decide, by rw [hs, Nat.one_mul], ?_⟩⟩
  rw [hx, List.take_of_length_le (by rw [← hx, Array.length_toList, hs, Nat.one_mul]; exact Nat.le_refl _)]
/-- A place. -/
def slW (lv gn : Nat → Bool) (vr ow : Nat → Int) : Nat → Nat → Value := fun i j => if j = 0 then .bool (lv i) else if j = 1 then .bool (gn i) else if j = 2 then .int .i64 (vr i) else .int .i64 (ow i)
theorem infoSlot : (Tryz.prog.info? 197).map (fun i => (i.zero, i.size, i.bytes)) = some (some (.agg #[.bool false, .bool false, .int .i64 0, .int .i64 0]), 4, 24) := by kernel_rfl
theorem slot_at {l : List Value} {a b c d : Value} (hl : l = [a, b, c, d]) (w : World) (T : TypeId) : ∀ j u, l[j]? = some u → (w.alloc (.cells #[a, b, c, d] T (0, 0))).cell? (Addr.add ⟨w.heap.size, 0, none⟩ j) = some u := by
  subst hl
  intro j u hj
  rw [Addr.add_mid, Nat.zero_add]
  simpa using hj
theorem slot_one (x y : Bool) (a b : Int) : ∀ u ∈ [Value.bool x, .bool y, .int .i64 a, .int .i64 b], u.oneCell' = true := by
  intro u hu
  simp at hu
  rcases hu with rfl | rfl | rfl | rfl <;> rfl
theorem flatS_snoc (s : Nat) (h0 : 0 < s) (W : Nat → Nat → Value) (n : Nat) : flatS s W (n + 1) = flatS s W n ++ (List.range s).map (W n) := by
  apply List.ext_getElem?
  intro j
  by_cases hj : j < n * s
  · rw [List.getElem?_append_left (by rw [flatS_len]; exact hj)]
    have h2 : j < (n + 1) * s := by rw [Nat.add_mul, Nat.one_mul]; omega
    simp [flatS, hj, h2]
  · rw [List.getElem?_append_right (by rw [flatS_len]; omega), flatS_len]
    by_cases h2 : j < (n + 1) * s
    · have h3 : j - n * s < s := by rw [Nat.add_mul, Nat.one_mul] at h2; omega
      have e : j = n * s + (j - n * s) := by omega
      have h4 := flatS_at s W (n + 1) n (j - n * s) (by omega) h3
      rw [← e] at h4
      rw [h4]
      simp [h3]
    · rw [List.getElem?_eq_none (by rw [flatS_len]; omega), List.getElem?_eq_none (by rw [Nat.add_mul, Nat.one_mul] at h2; simp; omega)]
set_option maxRecDepth 100000 in
set_option maxHeartbeats 1000000 in
theorem slots_is (x : Int) (n : Nat) (hx : Hid (x = n)) (hn : n ≤ 256) (w : World) :
    Calls Tryz.prog 88 #[.int .i64 x] w fun e w' => ∃ v, e = .returned v ∧ w'.ownsRow w.heap.size 197 4 v n (flatS 4 (slW (fun _ => false) (fun _ => false) (fun _ => 0) (fun _ => -1)) n) ∧ Below w.heap.size w w' := by
  obtain ⟨i0, hi, hz0, hz1, hz2⟩ := info_parts infoSlot
  have HI := Lib.hid (⟨hi, hz0, hz1, hz2⟩ : Tryz.prog.info? 197 = some i0 ∧ i0.zero = some (.agg #[.bool false, .bool false, .int .i64 0, .int .i64 0]) ∧ i0.size = 4 ∧ i0.bytes = 24)
  have e := hx.out
  subst e
  clear hi hz0 hz1 hz2
  go_enter Tryz.func88, Tryz.ntmps88
  go_wp2_with fail
  go_loopw [4, 3] (fun z v wr => ∃ q : Nat, q ≤ n ∧ z = .int .i64 q ∧ wr.ownsRow w.heap.size 197 4 v q (flatS 4 (slW (fun _ => false) (fun _ => false) (fun _ => 0) (fun _ => -1)) q) ∧ Below w.heap.size w wr) (fun z _ _ => n - (intOf z).toNat)
  case atStart => exact ⟨0, by omega, rfl, World.ownsRow_nil _ _ _ _, Below.refl _ _⟩
  case round =>
    obtain ⟨q, hq, rfl, hrow, hb⟩ := hrel
    have HRow := Lib.hid hrow
    have HB := Lib.hid hb
    clear hrow hb
    by_cases hlt : q < n
    · have q0 : (0 : Int) ≤ q := by omega
      have H6 : Hid (q + 1 ≤ maxLen ∧ (q + 1) * 24 ≤ 140737488355328 ∧ ∀ o, w.heap.size ≤ (wr.alloc o).heap.size) := Lib.hid ⟨by unfold maxLen; omega, by omega, fun o => by have := HB.out.size; simp; omega⟩
      go_wp2_with (first
        | (at_builtin; refine wpList_append_own_at _ rfl _ _ 146 rfl w.heap.size 197 i0 (.agg #[.bool false, .bool false, .int .i64 0, .int .i64 0]) 4 24 Tryz.underlying146 HI.out.1 HI.out.2.1 HI.out.2.2.1 HI.out.2.2.2 rfl (by decide) u3 q _ rfl (HRow.out.alloc _) ⟨wr.heap.size, 0, none⟩ 1 1 [.bool false, .bool false, .int .i64 0, .int .i64 (-1)] rfl rfl (slot_at rfl _ _) (slot_one _ _ _ _) H6.out.1 H6.out.2.1 (H6.out.2.2 _) ?_; intro v' w9 hown hgrow hnil hloc; have HOW := Lib.hid hown; have HGR := Lib.hid hgrow; clear hown hgrow hnil hloc))
      go_roundw
      case rel =>
        refine ⟨q + 1, by omega, by go_num, ?_, (HB.out.alloc HB.out.size _).grown HGR.out (H6.out.2.2 _) (fun g hg => (HRow.out.lt g hg).1)⟩
        rw [flatS_snoc 4 (by decide)]
        exact HOW.out
      case measure => simp [intOf]; omega
    · obtain rfl : q = n := by omega
      have hdd : decide (q < q) = false := by simp
      go_wp2_with fail
      go_ret
      exact ⟨_, rfl, HRow.out, HB.out⟩
theorem flatS_congr' {s n : Nat} {W W' : Nat → Nat → Value} (h0 : 0 < s) (hw : ∀ i j, i < n → j < s → W i j = W' i j) : flatS s W n = flatS s W' n := by
  apply List.ext_getElem?
  intro j
  by_cases hj : j < n * s
  · have h1 : j / s < n := by rw [Nat.div_lt_iff_lt_mul h0]; exact hj
    simp [flatS, hj, hw (j / s) (j % s) h1 (Nat.mod_lt _ h0)]
  · rw [List.getElem?_eq_none (by rw [flatS_len]; omega), List.getElem?_eq_none (by rw [flatS_len]; omega)]
/-- The shape of a system: where it lies; nodes, pages: how many, their places, their cells. -/
structure SyS where
  x : Nat
  n : Nat
  m : Nat
  gN : Nat
  cN : Nat
  gP : Nat
  cP : Nat
  bN : Nat
  bP : Nat
/-- What a system holds: of its nodes' places (there, gone, version, owner), its pages' places, keys, words. -/
structure SyD where
  lN : Nat → Bool
  dN : Nat → Bool
  vN : Nat → Int
  oN : Nat → Int
  lP : Nat → Bool
  dP : Nat → Bool
  vP : Nat → Int
  oP : Nat → Int
  wN : Nat → Nat → Value
  wP : Nat → Nat → Int
def wordsW (f : Nat → Nat → Int) : Nat → Nat → Value := fun i j => .int .u32 (f i j)
structure SyAt (w : World) (base : Nat) (S : SyS) (d : SyD) : Prop where
  xb : base ≤ S.x
  xl : S.x < w.heap.size
  f0 : w.cell? ⟨S.x, 0, none⟩ = some (.slice (some ⟨S.gN, 0, none⟩) S.n S.cN)
  f1 : w.cell? ⟨S.x, 1, none⟩ = some (.slice (some ⟨S.gP, 0, none⟩) S.m S.cP)
  f6 : w.cell? ⟨S.x, 6, none⟩ = some (.slice (some ⟨S.bN, 0, none⟩) S.n S.n)
  f7 : w.cell? ⟨S.x, 7, none⟩ = some (.slice (some ⟨S.bP, 0, none⟩) S.m S.m)
  ns : w.ownsRow base 197 4 (.slice (some ⟨S.gN, 0, none⟩) S.n S.cN) S.n (flatS 4 (slW d.lN d.dN d.vN d.oN) S.n)
  ps : w.ownsRow base 197 4 (.slice (some ⟨S.gP, 0, none⟩) S.m S.cP) S.m (flatS 4 (slW d.lP d.dP d.vP d.oP) S.m)
  nd : w.ownsRow base 163 80 (.slice (some ⟨S.bN, 0, none⟩) S.n S.n) S.n (flatS 80 d.wN S.n)
  pg : w.ownsRow base 179 32 (.slice (some ⟨S.bP, 0, none⟩) S.m S.m) S.m (flatS 32 (wordsW d.wP) S.m)
  ne : S.gN ≠ S.x ∧ S.gP ≠ S.x ∧ S.bN ≠ S.x ∧ S.bP ≠ S.x ∧ S.gN ≠ S.gP ∧ S.gN ≠ S.bN ∧ S.gN ≠ S.bP ∧ S.gP ≠ S.bN ∧ S.gP ≠ S.bP ∧ S.bN ≠ S.bP
section
variable {w w' : World} {base : Nat} {S : SyS} {d : SyD}
theorem SyAt.below (h : SyAt w base S d) (hb : Below w.heap.size w w') : SyAt w' base S d :=
  ⟨h.xb, Nat.lt_of_lt_of_le h.xl hb.size, (hb.cell (p := ⟨S.x, 0, none⟩) h.xl).trans h.f0, (hb.cell (p := ⟨S.x, 1, none⟩) h.xl).trans h.f1, (hb.cell (p := ⟨S.x, 6, none⟩) h.xl).trans h.f6, (hb.cell (p := ⟨S.x, 7, none⟩) h.xl).trans h.f7, own_below h.ns hb, own_below h.ps hb, own_below h.nd hb, own_below h.pg hb, h.ne⟩
theorem own_ne {B E s n g c k : Nat} {xs : List Value} (h : w.ownsRow B E s (.slice (some ⟨g, 0, none⟩) n c) n xs) (hg : w.grownBy w' (some k)) (hne : g ≠ k) : w'.ownsRow B E s (.slice (some ⟨g, 0, none⟩) n c) n xs := h.kept hg (.inr (by simp [Value.ownBlock]; exact hne))
/-- A row apart was written. -/
theorem SyAt.far (h : SyAt w base S d) {k : Nat} (hg : w.grownBy w' (some k)) (h1 : S.x ≠ k ∧ S.gN ≠ k ∧ S.gP ≠ k ∧ S.bN ≠ k ∧ S.bP ≠ k) : SyAt w' base S d := by
  have hx := hg.block S.x h.xl (fun e => h1.1 (by injection e))
  exact ⟨h.xb, Nat.lt_of_lt_of_le h.xl hg.size, (World.cell?_of_block (a := ⟨S.x, 0, none⟩) hx).trans h.f0, (World.cell?_of_block (a := ⟨S.x, 1, none⟩) hx).trans h.f1, (World.cell?_of_block (a := ⟨S.x, 6, none⟩) hx).trans h.f6, (World.cell?_of_block (a := ⟨S.x, 7, none⟩) hx).trans h.f7, own_ne h.ns hg h1.2.1, own_ne h.ps hg h1.2.2.1, own_ne h.nd hg h1.2.2.2.1, own_ne h.pg hg h1.2.2.2.2, h.ne⟩
/-- A page's words were written. -/
theorem SyAt.words (h : SyAt w base S d) (i o : Nat) (hi : i < S.m) (xs : List Int) (ho : o + xs.length ≤ 32) (wP : Nat → Nat → Int) (hv : ∀ a b, a < S.m → b < 32 → (if a = i ∧ o ≤ b ∧ b < o + xs.length then xs.getD (b - o) 0 else d.wP a b) = wP a b) :
    SyAt (w.setCells S.bP (i * 32 + o) (xs.map (Value.int .u32))) base S { d with wP := wP } ∧ w.grownBy (w.setCells S.bP (i * 32 + o) (xs.map (Value.int .u32))) (some S.bP) := by
  have hs := own_setCells (xs.map (Value.int .u32)) (i * 32 + o) _ _ h.pg
  rw [flatS_over 32 _ S.m i o _ hi (by simpa using ho), flatS_congr' (by decide) (W' := wordsW wP) (fun a b ha hb => by
    have h1 := hv a b ha hb
    unfold wordsW
    rw [← h1]
    unfold updS
    rw [List.length_map]
    by_cases e : a = i ∧ o ≤ b ∧ b < o + xs.length
    · rw [if_pos e, if_pos e]
      have : b - o < xs.length := by omega
      simp [List.getD, this]
    · rw [if_neg e, if_neg e])] at hs
  have hx := hs.2.block S.x h.xl (fun e => h.ne.2.2.2.1 (by injection e with e; exact e.symm))
  obtain ⟨n1, n2, n3, n4, n5, n6, n7, n8, n9, n10⟩ := h.ne
  exact ⟨⟨h.xb, Nat.lt_of_lt_of_le h.xl hs.2.size, (World.cell?_of_block (a := ⟨S.x, 0, none⟩) hx).trans h.f0, (World.cell?_of_block (a := ⟨S.x, 1, none⟩) hx).trans h.f1, (World.cell?_of_block (a := ⟨S.x, 6, none⟩) hx).trans h.f6, (World.cell?_of_block (a := ⟨S.x, 7, none⟩) hx).trans h.f7, own_ne h.ns hs.2 n7, own_ne h.ps hs.2 n9, own_ne h.nd hs.2 n10, hs.1, h.ne⟩, hs.2⟩
theorem SyAt.pword (h : SyAt w base S d) (i j : Nat) (hi : i < S.m) (hj : j < 32) : w.cell? ⟨S.bP, i * 32 + j, none⟩ = some (.int .u32 (d.wP i j)) := by
  rw [h.pg.cellAt (i * 32 + j) (mid_lt hi hj), flatS_at 32 _ S.m i j hi hj]
  rfl
end
end Go.Proofs.YtncopdhhchmpeaaGreatDoor
namespace Go.Proofs.YtncopdhhchmpeaaGreatDoor
open Go.ChangeShapes Go.WideShapes Go.ChangeAt Go.RowKit
set_option linter.unusedVariables false
theorem own_shape' {w : World} {B E s n : Nat} {v : Value} {xs : List Value} (h : w.ownsRow B E s v n xs) : ∃ a c, v = .slice a n c := by
  rcases h.2 with ⟨rfl, rfl⟩ | ⟨g, cap, cur, rfl, _⟩
  · exact ⟨_, _, rfl⟩
  · exact ⟨_, _, rfl⟩
theorem own_some' {w : World} {B E s n : Nat} {v : Value} {xs : List Value} (h : w.ownsRow B E s v n xs) (hn : 0 < n) : ∃ g c, v = .slice (some ⟨g, 0, none⟩) n c := by
  rcases h.2 with ⟨rfl, rfl⟩ | ⟨g, cap, cur, rfl, _⟩
  · omega
  · exact ⟨_, _, rfl⟩
theorem grown_chain {a b c : World} {g : Nat} (h : a.grownBy b (some g)) (h2 : b.grownBy c (some g)) : a.grownBy c (some g) :=
  ⟨h2.os.trans h.os, h2.tape.trans h.tape, h2.output.trans h.output, Nat.le_trans h.size h2.size, fun k hk hne => (h2.block k (Nat.lt_of_lt_of_le hk h.size) hne).trans (h.block k hk hne)⟩
/-- The box of a system that is being made: what was set, and nothing else since. -/
structure SyBx (w6 w : World) (x : Nat) : Prop where
  bel : Below w6.heap.size w6 w
  xe : x = w6.heap.size
  own : ∃ fs, w.ownsRow w6.heap.size 155 16 (.slice (some ⟨x, 0, none⟩) 1 1) 1 fs
section
variable {w6 w w' : World} {x : Nat}
theorem SyBx.next (h : SyBx w6 w x) (j : Nat) (u : Value) (hg : (w.setCell ⟨x, j, none⟩ u).grownBy w' none) : SyBx w6 w' x := by
  obtain ⟨fs, ho⟩ := h.own
  have hx := h.xe
  have hs := ho.stored j u
  exact ⟨(h.bel.grown hs.2 h.bel.size (fun k hk => by injection hk with e; omega)).grown hg (Nat.le_trans h.bel.size hs.2.size) (fun k hk => by cases hk), hx, ⟨_, hs.1.kept hg (.inr (by simp [Value.ownBlock]))⟩⟩
theorem SyBx.cell (h : SyBx w6 w x) (j : Nat) (hj : j < 16) : (∃ v, w.cell? ⟨x, j, none⟩ = some v) ∧ w.frozen? ⟨x, j, none⟩ = false := by
  obtain ⟨fs, ho⟩ := h.own
  refine ⟨?_, ho.frozenAt j⟩
  rw [ho.cellAt j (by omega)]
  have : j < fs.length := by have := ho.1; omega
  exact ⟨_, List.getElem?_eq_getElem this⟩
end
theorem SyBx.lt {w6 w : World} {x : Nat} (h : SyBx w6 w x) : x < w.heap.size := by
  obtain ⟨fs, ho⟩ := h.own
  exact (ho.lt x rfl).2
theorem SyBx.grow {w6 w w' : World} {x : Nat} (h : SyBx w6 w x) (hg : w.grownBy w' none) : SyBx w6 w' x := by
  obtain ⟨fs, ho⟩ := h.own
  exact ⟨h.bel.grown hg h.bel.size (fun k hk => by cases hk), h.xe, ⟨_, ho.kept hg (.inr (by simp [Value.ownBlock]))⟩⟩
def C4 (w : World) (x : Nat) (v0 v1 v6 v7 : Value) : Prop := w.cell? ⟨x, 0, none⟩ = some v0 ∧ w.cell? ⟨x, 1, none⟩ = some v1 ∧ w.cell? ⟨x, 6, none⟩ = some v6 ∧ w.cell? ⟨x, 7, none⟩ = some v7
theorem SyBx.past {w6 w w' : World} {x j k : Nat} {v u : Value} (h : SyBx w6 w x) (hne : j ≠ k) (hv : w.cell? ⟨x, j, none⟩ = some v) (hg : (w.setCell ⟨x, k, none⟩ u).grownBy w' none) : w'.cell? ⟨x, j, none⟩ = some v := by
  have hb := hg.block x (by have := h.lt; simpa using this) (by simp)
  rw [World.cell?_of_block (a := ⟨x, j, none⟩) hb, World.cell?_setCell_other _ _ _ _ (by intro e; injection e with _ e2; exact hne (by omega)), hv]
theorem SyBx.same {w6 w w' : World} {x k : Nat} {u : Value} (h : SyBx w6 w x) (hk : k < 16) (hg : (w.setCell ⟨x, k, none⟩ u).grownBy w' none) : w'.cell? ⟨x, k, none⟩ = some u := by
  have hb := hg.block x (by have := h.lt; simpa using this) (by simp)
  obtain ⟨⟨v, hv⟩, _⟩ := h.cell k hk
  rw [World.cell?_of_block (a := ⟨x, k, none⟩) hb]
  exact World.cell?_setCell_same _ _ _ hv
theorem C4.next {w6 w w' : World} {x k : Nat} {v0 v1 v6 v7 u : Value} (hT : C4 w x v0 v1 v6 v7) (h : SyBx w6 w x) (hk : 8 ≤ k) (hg : (w.setCell ⟨x, k, none⟩ u).grownBy w' none) : C4 w' x v0 v1 v6 v7 :=
  ⟨h.past (by omega) hT.1 hg, h.past (by omega) hT.2.1 hg, h.past (by omega) hT.2.2.1 hg, h.past (by omega) hT.2.2.2 hg⟩
end Go.Proofs.YtncopdhhchmpeaaGreatDoor
namespace Go.Proofs.YtncopdhhchmpeaaGreatDoor
open Go.ChangeShapes Go.WideShapes Go.ChangeAt Go.RowKit
set_option linter.unusedVariables false
/-- A page with its first k of two words. -/
def pg2 (W : Nat → Nat → Int) (j : Nat) (x y : Int) (k : Nat) : Nat → Nat → Int := fun a b => if a = j then (if b = 0 ∧ 0 < k then x else if b = 1 ∧ 1 < k then y else 0) else W a b
theorem SyAt.there {w : World} {base : Nat} {S : SyS} {d : SyD} (h : SyAt w base S d) (i : Nat) (hi : i < S.m) : w.there S.bP (i * 32) 32 := fun j hj => by
  rw [h.pword i j hi hj]
  exact ⟨rfl, h.pg.frozenAt _⟩
end Go.Proofs.YtncopdhhchmpeaaGreatDoor
namespace Go.Proofs.YtncopdhhchmpeaaGreatDoor
open Go.ChangeShapes Go.WideShapes Go.ChangeAt Go.RowKit
set_option linter.unusedVariables false
end Go.Proofs.YtncopdhhchmpeaaGreatDoor
namespace Go.Proofs.YtncopdhhchmpeaaGreatDoor
open Go.ChangeShapes Go.WideShapes Go.ChangeAt Go.RowKit
set_option linter.unusedVariables false
/-- Which pages are there. -/
def th9 (k : Nat) : Nat → Bool := if k = 0 then fun _ => false else upd (fun _ => false) 0 true
theorem KeyC.same {w w' : World} {b : Nat} {k0 k1 k2 k3 k4 : Int} (h : KeyC w b k0 k1 k2 k3 k4) (hs : w.heap.size ≤ w'.heap.size) (hb : w'.heap[b]? = w.heap[b]?) : KeyC w' b k0 k1 k2 k3 k4 :=
  ⟨Nat.lt_of_lt_of_le h.lt hs, (World.cell?_of_block (a := ⟨b, 0, none⟩) hb).trans h.c0, (World.cell?_of_block (a := ⟨b, 1, none⟩) hb).trans h.c1, (World.cell?_of_block (a := ⟨b, 2, none⟩) hb).trans h.c2, (World.cell?_of_block (a := ⟨b, 3, none⟩) hb).trans h.c3, (World.cell?_of_block (a := ⟨b, 4, none⟩) hb).trans h.c4, fun j => (World.frozen?_of_block (a := ⟨b, j, none⟩) hb).trans (h.fr j)⟩
section
variable {w w' : World} {S : Nat} {a b : Shp} {th : Nat → Bool} {vr_ : Nat → Int} {W : Nat → Nat → Value} {th2 : Nat → Bool} {vr2 : Nat → Int} {W2 : Nat → Nat → Int}
/-- What is written below a store leaves it. -/
theorem StAt.low (h : (StAt w S a b th vr_ W th2 vr2 W2)) (hs : w.heap.size ≤ w'.heap.size) (hk : ∀ k, a.b ≤ k → k < w.heap.size → w'.heap[k]? = w.heap[k]?) : (StAt w' S a b th vr_ W th2 vr2 W2) := by
  have hS := hk S (Nat.le_trans h.ab h.hs.1) h.sl
  have g1 := h.nd.ar.lt
  have g2 := h.nd.row.lt a.G rfl
  have g3 := h.pg.ar.lt
  have g4 := h.pg.row.lt b.G rfl
  have g5 := h.ab
  refine ⟨(World.cell?_of_block (a := ⟨S, 0, none⟩) hS).trans h.s0, (World.cell?_of_block (a := ⟨S, 1, none⟩) hS).trans h.s1, Nat.lt_of_lt_of_le h.sl hs, ?_, ?_, h.ab, h.hi, h.hs⟩
  · exact h.nd.same hs (hk _ h.nd.pb h.nd.pl) (hk _ h.nd.ar.pb h.nd.ar.pl) (hk _ g1.1 g1.2) (hk _ g2.1 g2.2)
  · exact h.pg.same hs (hk _ (Nat.le_trans g5 h.pg.pb) h.pg.pl) (hk _ (Nat.le_trans g5 h.pg.ar.pb) h.pg.ar.pl) (hk _ (Nat.le_trans g5 g3.1) g3.2) (hk _ (Nat.le_trans g5 g4.1) g4.2)
end
end Go.Proofs.YtncopdhhchmpeaaGreatDoor
namespace Go.Proofs.YtncopdhhchmpeaaGreatDoor
open Go.ChangeShapes Go.WideShapes Go.ChangeAt Go.RowKit
set_option linter.unusedVariables false
theorem PlC.of2 {w w' : World} {x y : Int} {r : Bool} {T : TypeId} {o : Obj} (hb : Below ((w.alloc o).alloc (.cells #[.int .i64 x, .int .i64 y, .bool r] T (0, 0))).heap.size ((w.alloc o).alloc (.cells #[.int .i64 x, .int .i64 y, .bool r] T (0, 0))) w') : PlC w' (w.heap.size + 1) x y r := by
  have h := (PlC.new (w.alloc o) x y r T).below hb
  have e : (w.alloc o).heap.size = w.heap.size + 1 := by simp
  rw [e] at h
  exact h
end Go.Proofs.YtncopdhhchmpeaaGreatDoor
namespace Go.Proofs.YtncopdhhchmpeaaGreatDoor
open Go.ChangeShapes Go.WideShapes Go.ChangeAt Go.RowKit
set_option linter.unusedVariables false
theorem PBelow.low {w w' w'' : World} {B G : Nat} (h : PBelow w w' B G) (h2 : Below w.heap.size w' w'') : PBelow w w'' B G :=
  ⟨h2.os.trans h.1, h2.tape.trans h.2.1, h2.output.trans h.2.2.1, Nat.le_trans h.2.2.2.1 h2.size, fun k hk h3 h4 => (h2.block k hk).trans (h.2.2.2.2 k hk h3 h4)⟩
theorem KeyC.pbelow {w w' : World} {b : Nat} {k0 k1 k2 k3 k4 : Int} {B G : Nat} (h : KeyC w b k0 k1 k2 k3 k4) (hb : PBelow w w' B G) (h1 : b ≠ B) (h2 : b ≠ G) : KeyC w' b k0 k1 k2 k3 k4 := by
  have e := hb.2.2.2.2 b h.lt h1 h2
  have c : ∀ j, w'.cell? ⟨b, j, none⟩ = w.cell? ⟨b, j, none⟩ := fun j => World.cell?_of_block (a := ⟨b, j, none⟩) e
  exact ⟨Nat.lt_of_lt_of_le h.lt hb.2.2.2.1, (c 0).trans h.c0, (c 1).trans h.c1, (c 2).trans h.c2, (c 3).trans h.c3, (c 4).trans h.c4, fun j => by have := h.fr j; simp only [World.frozen?] at this ⊢; rw [e]; exact this⟩
section
variable {w w' : World} {k0 k1 k2 k3 k4 x0 x1 x2 x3 x4 z0 z1 z2 z3 z4 : Int} {T : TypeId}
theorem KeyC.three (hb : Below (((w.alloc (.cells #[.int .i64 k0, .int .i64 k1, .int .i64 k2, .int .i64 k3, .int .u32 k4] T (0, 0))).alloc (.cells #[.int .i64 x0, .int .i64 x1, .int .i64 x2, .int .i64 x3, .int .u32 x4] T (0, 0))).alloc (.cells #[.int .i64 z0, .int .i64 z1, .int .i64 z2, .int .i64 z3, .int .u32 z4] T (0, 0))).heap.size (((w.alloc (.cells #[.int .i64 k0, .int .i64 k1, .int .i64 k2, .int .i64 k3, .int .u32 k4] T (0, 0))).alloc (.cells #[.int .i64 x0, .int .i64 x1, .int .i64 x2, .int .i64 x3, .int .u32 x4] T (0, 0))).alloc (.cells #[.int .i64 z0, .int .i64 z1, .int .i64 z2, .int .i64 z3, .int .u32 z4] T (0, 0))) w') :
    KeyC w' w.heap.size k0 k1 k2 k3 k4 ∧ KeyC w' (w.heap.size + 1) x0 x1 x2 x3 x4 ∧ KeyC w' (w.heap.size + 1 + 1) z0 z1 z2 z3 z4 := by
  have a1 := ((KeyC.new w k0 k1 k2 k3 k4 T).below ((Below.refl _ _).alloc (Nat.le_refl _) (.cells #[.int .i64 x0, .int .i64 x1, .int .i64 x2, .int .i64 x3, .int .u32 x4] T (0, 0)))).below ((Below.refl _ _).alloc (Nat.le_refl _) (.cells #[.int .i64 z0, .int .i64 z1, .int .i64 z2, .int .i64 z3, .int .u32 z4] T (0, 0)))
  have a2 := (KeyC.new (w.alloc (.cells #[.int .i64 k0, .int .i64 k1, .int .i64 k2, .int .i64 k3, .int .u32 k4] T (0, 0))) x0 x1 x2 x3 x4 T).below ((Below.refl _ _).alloc (Nat.le_refl _) (.cells #[.int .i64 z0, .int .i64 z1, .int .i64 z2, .int .i64 z3, .int .u32 z4] T (0, 0)))
  have a3 := KeyC.new ((w.alloc (.cells #[.int .i64 k0, .int .i64 k1, .int .i64 k2, .int .i64 k3, .int .u32 k4] T (0, 0))).alloc (.cells #[.int .i64 x0, .int .i64 x1, .int .i64 x2, .int .i64 x3, .int .u32 x4] T (0, 0))) z0 z1 z2 z3 z4 T
  have b1 := a1.below hb
  have b2 := a2.below hb
  have b3 := a3.below hb
  have e2 : (w.alloc (.cells #[.int .i64 k0, .int .i64 k1, .int .i64 k2, .int .i64 k3, .int .u32 k4] T (0, 0))).heap.size = w.heap.size + 1 := by simp
  have e3 : ((w.alloc (.cells #[.int .i64 k0, .int .i64 k1, .int .i64 k2, .int .i64 k3, .int .u32 k4] T (0, 0))).alloc (.cells #[.int .i64 x0, .int .i64 x1, .int .i64 x2, .int .i64 x3, .int .u32 x4] T (0, 0))).heap.size = w.heap.size + 1 + 1 := by simp
  rw [e2] at b2
  rw [e3] at b3
  exact ⟨b1, b2, b3⟩
end
set_option maxRecDepth 100000 in
set_option maxHeartbeats 2000000 in
theorem sswap_ok {S : Nat} {a b : Shp} {th : Nat → Bool} {vr_ : Nat → Int} {W : Nat → Nat → Value} {th2 : Nat → Bool} {vr2 : Nat → Int} {W2 : Nat → Nat → Int} (vs vr : Value) (k : Nat) (k2 k3 k4 : Int) (j : Nat) (hk : k < a.n) (hj : j < 16) (hth : Hid (th k = true)) (ht : Hid (liveB a b th vr_ th2 vr2 2 k k2 = true)) (hb0 : Hid (bits BinOp.and IntKind.i64 k3 2 = 0)) (hb5 : Hid ((bits BinOp.and IntKind.i64 k3 5 == 0) = true)) (y0 y1 y2 y3 y4 x0 x1 x2 x3 x4 : Int) (hy : Hid (KAt (W k) j y0 y1 y2 y3 y4)) (hx : Hid (rightB x0 x1 x2 x3 x4 = true)) (hcell : Hid (∀ j, j < 80 → (W k j).oneCell' = true)) (w : World) (hE : ErrsAt vs vr w) (h : (StAt w S a b th vr_ W th2 vr2 W2)) :
    Calls Tryz.prog 175 #[.pointer (some ⟨S, 0, none⟩), .agg #[.int .i64 2, .int .i64 k, .int .i64 k2, .int .i64 k3, .int .u32 k4], .int .i64 j, (Value.agg #[.int .i64 x0, .int .i64 x1, .int .i64 x2, .int .i64 x3, .int .u32 x4])] w fun e w' => e = .returned (.tuple #[(Value.agg #[.int .i64 y0, .int .i64 y1, .int .i64 y2, .int .i64 y3, .int .u32 y4]), .nilIface]) ∧ StAt w' S a b th vr_ (updV W k (j * 5) (k5 x0 x1 x2 x3 x4)) th2 vr2 W2 ∧ PBelow w w' a.B a.G := by
  have hb1 : ∀ o o' o2, Below w.heap.size w (((w.alloc o).alloc o').alloc o2) := fun o o' o2 => (((Below.refl _ _).alloc (Nat.le_refl _) _ : Below w.heap.size w (w.alloc o)).alloc (by simp) o').alloc (by simp; omega) o2
  have H := Lib.hid (fun o o' o2 => h.below (hb1 o o' o2))
  have HE := Lib.hid (fun o o' o2 => hE.below (hb1 o o' o2))
  have HB1 := Lib.hid hb1
  have H0 := Lib.hid h
  have g0 : Hid (W k (j * 5) = .int .i64 y0) := Lib.hid hy.out.1
  have g1 : Hid (W k (j * 5 + 1) = .int .i64 y1) := Lib.hid hy.out.2.1
  have g2 : Hid (W k (j * 5 + 2) = .int .i64 y2) := Lib.hid hy.out.2.2.1
  have g3 : Hid (W k (j * 5 + 3) = .int .i64 y3) := Lib.hid hy.out.2.2.2.1
  have g4 : Hid (W k (j * 5 + 4) = .int .u32 y4) := Lib.hid hy.out.2.2.2.2
  clear h hb1 hE
  go_enter Tryz.func175, Tryz.ntmps175
  go_upto_region 4 with (first
    | (go_at_call 179; (with_reducible refine (swrite_ok 2 k k2 k3 k4 (Or.inl rfl) ht hb0.out hb5.out _ (H.out _ _ _)).mono ?_); rintro e w1 ⟨rfl, hb⟩; have HB := Lib.hid ((HB1.out _ _ _).trans (hb.mono (HB1.out _ _ _).size)); have H1 := Lib.hid ((H.out _ _ _).below hb); have HE1 := Lib.hid ((HE.out _ _ _).below hb); have HT := Lib.hid (KeyC.three hb); clear hb))
  go_cut [11] (fun u wx => ∃ bx : Nat, u = .pointer (some ⟨bx, 0, none⟩) ∧ Below w.heap.size w wx ∧ (StAt wx S a b th vr_ W th2 vr2 W2) ∧ ErrsAt vs vr wx ∧ KeyC wx bx y0 y1 y2 y3 y4 ∧ KeyC wx w.heap.size 2 k k2 k3 k4 ∧ KeyC wx (w.heap.size + 1) x0 x1 x2 x3 x4 ∧ KeyC wx (w.heap.size + 1 + 1) 0 0 0 0 0 ∧ w.heap.size + 1 + 1 < bx)
  case first =>
    have HK0 := Lib.hid HT.out.1
    have HX0 := Lib.hid HT.out.2.1
    have HZ0 := Lib.hid HT.out.2.2
    have hs := H1.out.s0
    have hk1' := HK0.out.c1
    have hA : ∀ o, World.cell? (w1.alloc o) ⟨S, 0, none⟩ = some (.pointer (some ⟨a.P, 0, none⟩)) := fun o => (H1.out.below ((Below.refl w1.heap.size w1).alloc (Nat.le_refl _) o)).s0
    have hA' : ∀ o, World.cell? (w1.alloc o) ⟨w.heap.size, 1, none⟩ = some (.int .i64 k) := fun o => (HK0.out.below ((Below.refl w1.heap.size w1).alloc (Nat.le_refl _) o)).c1
    have hs1 := hA (.cells #[.int .i64 0, .int .i64 0, .int .i64 0, .int .i64 0, .int .u32 0] 42 (0, 0))
    have hs2 := hA' (.cells #[.int .i64 0, .int .i64 0, .int .i64 0, .int .i64 0, .int .u32 0] 42 (0, 0))
    clear hA hA'
    have hl1 := HK0.out.lt
    go_region_with (first | (go_at_call 173; (with_reducible refine (nget_at k j k j (Lib.hid rfl) (Lib.hid rfl) hk hj hth y0 y1 y2 y3 y4 g0 g1 g2 g3 g4 _ (H1.out.below (Below.refl w1.heap.size w1).drew).nd).mono ?_); rintro e w2 ⟨rfl, hb⟩; have HBB := Lib.hid hb; clear hb) | (go_at_call 173; (with_reducible refine (nget_at k j k j (Lib.hid rfl) (Lib.hid rfl) hk hj hth y0 y1 y2 y3 y4 g0 g1 g2 g3 g4 _ (H1.out.below ((Below.refl w1.heap.size w1).alloc (Nat.le_refl _) _).drew).nd).mono ?_); rintro e w2 ⟨rfl, hb⟩; have HBA := Lib.hid hb; have hKB := ((KeyC.new w1 0 0 0 0 0 42).below (Below.refl _ _).drew).below hb; have kc0 := hKB.c0; have kc1 := hKB.c1; have kc2 := hKB.c2; have kc3 := hKB.c3; have kc4 := hKB.c4; have kf0 := hKB.fr 0; have kf1 := hKB.fr 1; have kf2 := hKB.fr 2; have kf3 := hKB.fr 3; have kf4 := hKB.fr 4; have HKB := Lib.hid hKB; clear hb hKB))
    all_goals (go_wp2_with fail; go_meet; clear hs1 hs2 hs hk1'; have hz := HB.out.size; have hz2 : w.heap.size + 1 + 1 < w1.heap.size := HZ0.out.lt)
    all_goals (first
      | (have hb := ((Below.refl w1.heap.size w1).drew.trans (HBB.out.mono (by simp))).alloc (Nat.le_trans HBB.out.size (Nat.le_refl _)) (.cells #[.int .i64 y0, .int .i64 y1, .int .i64 y2, .int .i64 y3, .int .u32 y4] 42 (0, 0)); exact ⟨_, rfl, HB.out.trans (hb.mono hz), H1.out.below hb, HE1.out.below hb, KeyC.new _ y0 y1 y2 y3 y4 _, HK0.out.below hb, HX0.out.below hb, HZ0.out.below hb, Nat.lt_of_lt_of_le hz2 HBB.out.size⟩)
      | (have hb := below_set5 ((((Below.refl w1.heap.size w1).alloc (Nat.le_refl _) _).drew).trans (HBA.out.mono (by simp))) (Nat.le_refl _) y0 y1 y2 y3 y4; exact ⟨_, rfl, HB.out.trans (hb.mono hz), H1.out.below hb, HE1.out.below hb, HKB.out.set y0 y1 y2 y3 y4, HK0.out.below hb, HX0.out.below hb, HZ0.out.below hb, hz2⟩))
  case rest =>
    obtain ⟨bx, rfl, hb, h, hE, ky, kk, kx, kz, hl⟩ := hcut
    go_upto_region 5 with fail
    have hB : a.B < w.heap.size := H0.out.nd.ar.lt.2
    have hG : a.G < w.heap.size := (H0.out.nd.row.lt a.G rfl).2
    have hs := h.s0
    have kk1 := kk.c1
    have q0 := kx.c0
    have q1 := kx.c1
    have q2 := kx.c2
    have q3 := kx.c3
    have q4 := kx.c4
    have HC := Lib.hid (hb.drew)
    have HS := Lib.hid (h.below (Below.refl _ _).drew)
    have HEc := Lib.hid (hE.below (Below.refl _ _).drew)
    have HY := Lib.hid (ky.below (Below.refl _ _).drew)
    have HZ := Lib.hid (kz.below (Below.refl _ _).drew)
    have HN := Lib.hid (show bx ≠ a.B ∧ bx ≠ a.G ∧ w.heap.size + 1 + 1 ≠ a.B ∧ w.heap.size + 1 + 1 ≠ a.G by omega)
    clear hb h hE ky kk kx kz hl hB hG
    go_still_tail 8, (by kernel_rfl)
    change wpList _ _ _ _ _ wc.drew
    clear hs kk1 q0 q1 q2 q3 q4
    go_wp2_with (first
      | (go_at_call 199; (with_reducible refine (nset_ok vs vr k j hk hj hth x0 x1 x2 x3 x4 hx _ HEc.out HS.out.nd hcell).mono ?_); rintro e w3 ⟨rfl, hN3, hP3⟩; have y := HY.out.pbelow hP3 HN.out.1 HN.out.2.1; have z := HZ.out.pbelow hP3 HN.out.2.2.1 HN.out.2.2.2; have y0' := y.c0; have y1' := y.c1; have y2' := y.c2; have y3' := y.c3; have y4' := y.c4; have z0 := z.c0; have z1 := z.c1; have z2 := z.c2; have z3 := z.c3; have z4 := z.c4; have f0 := z.fr 0; have f1 := z.fr 1; have f2 := z.fr 2; have f3 := z.fr 3; have f4 := z.fr 4; have HN3 := Lib.hid hN3; have HP3 := Lib.hid ((PBelow.of_below HC.out).trans hP3); have HZ3 := Lib.hid z; clear z y hN3 hP3))
    have t := HZ3.out.set y0 y1 y2 y3 y4
    have t0 := t.c0
    have t1 := t.c1
    have t2 := t.c2
    have t3 := t.c3
    have t4 := t.c4
    (try simp only [Exit.inBlock, Exit.then])
    refine bodyPost_ret (v := .tuple #[(Value.agg #[.int .i64 y0, .int .i64 y1, .int .i64 y2, .int .i64 y3, .int .u32 y4]), .nilIface]) ?_ rfl ?_
    · simp [results, go_sem, t0, t1, t2, t3, t4]
    · have hb := below_set5 (Below.refl w.heap.size w3) (show w.heap.size ≤ w.heap.size + 1 + 1 by omega) y0 y1 y2 y3 y4
      have hP := HP3.out.low hb
      exact ⟨rfl, H0.out.node (HN3.out.same hb.size (hb.block _ H0.out.nd.pl) (hb.block _ H0.out.nd.ar.pl) (hb.block _ H0.out.nd.ar.lt.2) (hb.block _ (H0.out.nd.row.lt a.G rfl).2)) hP, hP⟩
end Go.Proofs.YtncopdhhchmpeaaGreatDoor
namespace Go.Proofs.YtncopdhhchmpeaaGreatDoor
open Go.ChangeShapes Go.WideShapes Go.ChangeAt Go.RowKit
set_option linter.unusedVariables false
/-- A store's blocks lie below N. -/
structure StLo (S : Nat) (a b : Shp) (N : Nat) : Prop where
  s : S < N
  n : a.P < N ∧ a.p < N ∧ a.B < N ∧ a.G < N
  p : b.P < N ∧ b.p < N ∧ b.B < N ∧ b.G < N
section
variable {w0 w w' : World} {S : Nat} {a b : Shp} {th : Nat → Bool} {vr_ : Nat → Int} {W : Nat → Nat → Value} {th2 : Nat → Bool} {vr2 : Nat → Int} {W2 : Nat → Nat → Int} {N : Nat}
theorem StAt.lo (h : (StAt w S a b th vr_ W th2 vr2 W2)) : StLo S a b w.heap.size := ⟨h.sl, ⟨h.nd.pl, h.nd.ar.pl, h.nd.ar.lt.2, (h.nd.row.lt a.G rfl).2⟩, ⟨h.pg.pl, h.pg.ar.pl, h.pg.ar.lt.2, (h.pg.row.lt b.G rfl).2⟩⟩
theorem StLo.mono {M : Nat} (h : StLo S a b N) (hm : N ≤ M) : StLo S a b M := by
  have h1 := h.s
  have h2 := h.n
  have h3 := h.p
  exact ⟨by omega, by omega, by omega⟩
theorem StAt.under (h : (StAt w S a b th vr_ W th2 vr2 W2)) (hl : StLo S a b N) (hs : w.heap.size ≤ w'.heap.size) (hk : ∀ k, k < N → w'.heap[k]? = w.heap[k]?) : (StAt w' S a b th vr_ W th2 vr2 W2) := by
  have hS := hk S hl.s
  refine ⟨(World.cell?_of_block (a := ⟨S, 0, none⟩) hS).trans h.s0, (World.cell?_of_block (a := ⟨S, 1, none⟩) hS).trans h.s1, Nat.lt_of_lt_of_le h.sl hs, ?_, ?_, h.ab, h.hi, h.hs⟩
  · exact h.nd.same hs (hk _ hl.n.1) (hk _ hl.n.2.1) (hk _ hl.n.2.2.1) (hk _ hl.n.2.2.2)
  · exact h.pg.same hs (hk _ hl.p.1) (hk _ hl.p.2.1) (hk _ hl.p.2.2.1) (hk _ hl.p.2.2.2)
theorem set_heap (w : World) (g k j : Nat) (u : Value) (h : k ≠ g) : (w.setCell ⟨g, j, none⟩ u).heap[k]? = w.heap[k]? := Below.heap_setCell _ _ _ _ h
theorem SV.put1 (h : SV w0 w S a b th vr_ W th2 vr2 W2) (hl : StLo S a b N) (g j : Nat) (hg : N ≤ g) (h0 : w0.heap.size ≤ N) (u : Value) : SV w0 (w.setCell ⟨g, j, none⟩ u) S a b th vr_ W th2 vr2 W2 :=
  ⟨h.bel.setCell (Nat.le_trans h0 hg) _, h.wb, h.st.under hl (by simp) (fun k hk => set_heap _ _ _ _ _ (by omega))⟩
theorem SV.put5 (h : SV w0 w S a b th vr_ W th2 vr2 W2) (hl : StLo S a b N) (g : Nat) (hg : N ≤ g) (h0 : w0.heap.size ≤ N) (u0 u1 u2 u3 u4 : Value) : SV w0 (((((w.setCell ⟨g, 0, none⟩ u0).setCell ⟨g, 1, none⟩ u1).setCell ⟨g, 2, none⟩ u2).setCell ⟨g, 3, none⟩ u3).setCell ⟨g, 4, none⟩ u4) S a b th vr_ W th2 vr2 W2 :=
  ((((h.put1 hl g 0 hg h0 u0).put1 hl g 1 hg h0 u1).put1 hl g 2 hg h0 u2).put1 hl g 3 hg h0 u3).put1 hl g 4 hg h0 u4
end
/-- A way that ends well is one in a store that has more nodes. -/
theorem Way.more {a b : Shp} {th th' : Nat → Bool} {vr_ : Nat → Int} {W W' : Nat → Nat → Value} {th2 : Nat → Bool} {vr2 : Nat → Int} (hn : ∀ i, i < a.n → th i = true → th' i = true ∧ ∀ j y0 y1 y2 y3 y4, KAt (W i) j y0 y1 y2 y3 y4 → KAt (W' i) j y0 y1 y2 y3 y4)
    {k0 k1 k2 k3 k4 below addr : Int} {ro : Bool} {ids : List Int} {pg at_ : Int} {r : Bool} {f : Int} (h : Way a b th vr_ W th2 vr2 k0 k1 k2 k3 k4 below addr ro ids pg at_ r f) (hf : f = 0) : Way a b th' vr_ W' th2 vr2 k0 k1 k2 k3 k4 below addr ro ids pg at_ r f := by
  induction h with
  | fault s t l f h0 hs hl hz hf' => subst hf; simp at hf'
  | page h0 a0 hl ha => exact .page h0 a0 hl ha
  | node h i q r' p ad y0 y1 y2 y3 y4 hk hp ha had h1 h4 hl hd hi hn' ht hq hr hy next ih =>
    have hx := hn i hn' ht
    refine .node h i q r' p ad y0 y1 y2 y3 y4 hk hp ha had h1 h4 ?_ hd hi hn' hx.1 hq hr (hx.2 _ _ _ _ _ _ hy) (ih hf)
    subst hi
    simp [liveB, thereB, ht, hx.1] at hl ⊢
    exact hl
/-- The two errors that a key's test names. -/
theorem errs2 {l : List (String × DataW Unit)} {w : World} (h : laidMet Tryz.prog l w) (h1 : ∃ t, ("turnkey/api.ErrShape", DataW.iface "*errors.errorString" (.ptr (.agg [.lit (.string t)]))) ∈ l) (h2 : ∃ t, ("turnkey/api.ErrRange", DataW.iface "*errors.errorString" (.ptr (.agg [.lit (.string t)]))) ∈ l) : ∃ vs vr, ErrsAt vs vr w := by
  obtain ⟨t1, h1⟩ := h1
  obtain ⟨t2, h2⟩ := h2
  have E := errs_are (gs := [6, 1]) h (by
    intro g hg
    simp at hg
    rcases hg with rfl | rfl
    · exact ⟨_, t1, h1, gErrShape, tErrShape⟩
    · exact ⟨_, t2, h2, gErrRange, tErrRange⟩)
  obtain ⟨s1, s2, -⟩ := E.1 6 (by simp)
  obtain ⟨r1, r2, -⟩ := E.1 1 (by simp)
  exact ⟨_, _, s1, r1, s2, r2⟩
end Go.Proofs.YtncopdhhchmpeaaGreatDoor
namespace Go.Proofs.YtncopdhhchmpeaaGreatDoor
open Go.ChangeShapes Go.WideShapes Go.ChangeAt Go.RowKit
set_option linter.unusedVariables false
/-- Node i of some: each slot holds a key. -/
def All16 (f : Nat → Value) : Prop := ∀ j, j < 16 → ∃ y0 y1 y2 y3 y4, KAt f j y0 y1 y2 y3 y4
theorem All16.one {f : Nat → Value} (h : All16 f) : ∀ b, b < 80 → (f b).oneCell' = true := KAt.one h
theorem All16.set {W : Nat → Nat → Value} {i : Nat} (h : All16 (W i)) (k s : Nat) (y0 y1 y2 y3 y4 : Int) : All16 (updV W k (s * 5) (k5 y0 y1 y2 y3 y4) i) := fun j hj => by
  by_cases e : i = k ∧ j = s
  · obtain ⟨rfl, rfl⟩ := e
    exact ⟨_, _, _, _, _, updV_key W i j y0 y1 y2 y3 y4⟩
  · obtain ⟨x0, x1, x2, x3, x4, hx⟩ := h j hj
    exact ⟨x0, x1, x2, x3, x4, updV_rest W k s i j y0 y1 y2 y3 y4 e hx⟩
theorem All16.fresh (W : Nat → Nat → Value) (i : Nat) (kk : Nat → Nat → Int) : All16 (freshV W i (kcs kk 0) i) := fun j hj => ⟨_, _, _, _, _, freshV_nokey W i kk 0 j (Nat.zero_le _) hj⟩
theorem All16.rest {W : Nat → Nat → Value} {a : Nat} (h : All16 (W a)) (i : Nat) (xs : List Value) (hne : a ≠ i) : All16 (freshV W i xs a) := fun j hj => by
  obtain ⟨x0, x1, x2, x3, x4, hx⟩ := h j hj
  exact ⟨x0, x1, x2, x3, x4, freshV_rest W i xs a j hne hx⟩
theorem fit32 {a : Int} (h : (Lit.int .u32 a).wf = true) : 0 ≤ a ∧ a ≤ 4294967295 := by simpa [Lit.wf, IntKind.min, IntKind.max, IntKind.signed, IntKind.bits] using h
end Go.Proofs.YtncopdhhchmpeaaGreatDoor
namespace Go.Proofs.YtncopdhhchmpeaaGreatDoor
open Go.ChangeShapes Go.WideShapes Go.ChangeAt Go.RowKit
set_option linter.unusedVariables false
section
variable {a b : Shp} {th : Nat → Bool} {vr_ : Nat → Int} {W : Nat → Nat → Value} {th2 : Nat → Bool} {vr2 : Nat → Int}
/-- All addresses of one page's words go one way. -/
theorem Way.sheet {k0 k1 k2 k3 k4 below addr : Int} {ro : Bool} {ids : List Int} {pg at_ : Int} {r : Bool} {f : Int} (h : Way a b th vr_ W th2 vr2 k0 k1 k2 k3 k4 below addr ro ids pg at_ r f) (hf : f = 0) : at_ = addr % 32 ∧ ∀ x : Int, 0 ≤ x → x < 32 → Way a b th vr_ W th2 vr2 k0 k1 k2 k3 k4 below (addr / 32 * 32 + x) ro ids pg x r f := by
  induction h with
  | fault s t l f h0 hs hl hz hf' => subst hf; simp at hf'
  | page h0 a0 hl ha =>
    refine ⟨by omega, fun x x0 x1 => ?_⟩
    rename_i addr' _
    rw [show addr' / 32 * 32 + x = x by omega]
    exact .page h0 x0 hl x1
  | node h i q r0 p ad y0 y1 y2 y3 y4 hk hp ha had h1 h4 hl hd hi hn ht hq hr hy next ih =>
    obtain ⟨e, g⟩ := ih hf
    obtain ⟨c, hc⟩ : ∃ c, p = c * 32 := by
      have h5 : h = 1 ∨ h = 2 ∨ h = 3 ∨ h = 4 := by omega
      rcases h5 with rfl | rfl | rfl | rfl
      · exact ⟨1, by rw [hp]⟩
      · exact ⟨16, by rw [hp]⟩
      · exact ⟨256, by rw [hp]⟩
      · exact ⟨4096, by rw [hp]⟩
    have hqp : q * p = q * c * 32 := by rw [hc, Nat.mul_assoc]
    obtain ⟨u, hu⟩ : ∃ u, q * c = u := ⟨_, rfl⟩
    rw [hu] at hqp
    refine ⟨by omega, fun x x0 x1 => ?_⟩
    have gx := g x x0 x1
    obtain ⟨y, rfl⟩ := Int.eq_ofNat_of_zero_le x0
    rw [show ((r0 : Nat) : Int) / 32 * 32 + ((y : Nat) : Int) = ((r0 / 32 * 32 + y : Nat) : Int) by omega] at gx
    refine .node h i q (r0 / 32 * 32 + y) p (q * p + (r0 / 32 * 32 + y)) y0 y1 y2 y3 y4 hk hp ?_ rfl h1 h4 hl hd hi hn ht hq (by omega) hy gx
    rw [ha, had]
    omega
/-- Nodes that a way does not go through may be turned. -/
theorem Way.keep {th' : Nat → Bool} {W' : Nat → Nat → Value} {k0 k1 k2 k3 k4 below addr : Int} {ro : Bool} {ids : List Int} {pg at_ : Int} {r : Bool} {f : Int} (h : Way a b th vr_ W th2 vr2 k0 k1 k2 k3 k4 below addr ro ids pg at_ r f) (hf : f = 0)
    (hn : ∀ i : Nat, (i : Int) ∈ ids → i < a.n → th i = true → th' i = true ∧ ∀ j y0 y1 y2 y3 y4, KAt (W i) j y0 y1 y2 y3 y4 → KAt (W' i) j y0 y1 y2 y3 y4) : Way a b th' vr_ W' th2 vr2 k0 k1 k2 k3 k4 below addr ro ids pg at_ r f := by
  induction h with
  | fault s t l f h0 hs hl hz hf' => subst hf; simp at hf'
  | page h0 a0 hl ha => exact .page h0 a0 hl ha
  | node h i q r0 p ad y0 y1 y2 y3 y4 hk hp ha had h1 h4 hl hd hi hn' ht hq hr hy next ih =>
    have hx := hn i (by rw [hi]; exact .head _) hn' ht
    refine .node h i q r0 p ad y0 y1 y2 y3 y4 hk hp ha had h1 h4 ?_ hd hi hn' hx.1 hq hr (hx.2 _ _ _ _ _ _ hy) (ih hf (fun j hj => hn j (.tail _ hj)))
    subst hi
    simp [liveB, thereB, ht, hx.1] at hl ⊢
    exact hl
theorem Way.ids_len {k0 k1 k2 k3 k4 below addr : Int} {ro : Bool} {ids : List Int} {pg at_ : Int} {r : Bool} {f : Int} (h : Way a b th vr_ W th2 vr2 k0 k1 k2 k3 k4 below addr ro ids pg at_ r f) : (ids.length : Int) ≤ max below 0 := by
  induction h with
  | fault => simp; omega
  | page => simp; omega
  | node h i q r0 p ad y0 y1 y2 y3 y4 hk hp ha had h1 h4 hl hd hi hn' ht hq hr hy next ih =>
    simp only [List.length_cons]
    omega
end
end Go.Proofs.YtncopdhhchmpeaaGreatDoor
namespace Go.Proofs.YtncopdhhchmpeaaGreatDoor
open Go.ChangeShapes Go.WideShapes Go.ChangeAt Go.RowKit
set_option linter.unusedVariables false
set_option linter.unusedSimpArgs false
/-- A slice of numbers, of one's own, in a variable that is caught. -/
structure IdAt (W0 w : World) (ib : Nat) (v : Value) (l : List Int) : Prop where
  bel : Below W0.heap.size W0 w
  ib0 : W0.heap.size ≤ ib
  ibl : ib < w.heap.size
  c : w.cell? ⟨ib, 0, none⟩ = some v
  fr : w.frozen? ⟨ib, 0, none⟩ = false
  row : w.ownsRow W0.heap.size 3 1 v l.length (l.map (Value.int .i64))
  ne : ∀ g, v.ownBlock = some g → g ≠ ib
theorem IdAt.same {W0 w w' : World} {ib : Nat} {v : Value} {l : List Int} (h : IdAt W0 w ib v l) (hb : Below W0.heap.size W0 w') (hs : w.heap.size ≤ w'.heap.size) (h1 : w'.heap[ib]? = w.heap[ib]?) (h2 : ∀ g, v.ownBlock = some g → w'.heap[g]? = w.heap[g]?) : IdAt W0 w' ib v l :=
  ⟨hb, h.ib0, Nat.lt_of_lt_of_le h.ibl hs, (World.cell?_of_block (a := ⟨ib, 0, none⟩) h1).trans h.c, (World.frozen?_of_block (a := ⟨ib, 0, none⟩) h1).trans h.fr, row_same' h.row h2, h.ne⟩
theorem IdAt.below {W0 w w' : World} {ib : Nat} {v : Value} {l : List Int} (h : IdAt W0 w ib v l) (hb : Below w.heap.size w w') : IdAt W0 w' ib v l :=
  h.same (h.bel.trans (hb.mono h.bel.size)) hb.size (hb.block ib h.ibl) (fun g hg => hb.block g (h.row.lt g hg).2)
theorem IdAt.put {W0 w : World} {ib : Nat} {v : Value} {l : List Int} (h : IdAt W0 w ib v l) (g j : Nat) (h1 : ib ≠ g) (h2 : v.ownBlock ≠ some g) (h0 : W0.heap.size ≤ g) (u : Value) : IdAt W0 (w.setCell ⟨g, j, none⟩ u) ib v l :=
  h.same (h.bel.setCell h0 _) (by simp) (set_heap _ _ _ _ _ h1) (fun k hk => set_heap _ _ _ _ _ (fun e => h2 (by rw [hk, e])))
theorem IdAt.put5 {W0 w : World} {ib : Nat} {v : Value} {l : List Int} (h : IdAt W0 w ib v l) (g : Nat) (h1 : ib ≠ g) (h2 : v.ownBlock ≠ some g) (h0 : W0.heap.size ≤ g) (y0 y1 y2 y3 y4 : Int) : IdAt W0 (((((w.setCell ⟨g, 0, none⟩ (.int .i64 y0)).setCell ⟨g, 1, none⟩ (.int .i64 y1)).setCell ⟨g, 2, none⟩ (.int .i64 y2)).setCell ⟨g, 3, none⟩ (.int .i64 y3)).setCell ⟨g, 4, none⟩ (.int .u32 y4)) ib v l :=
  ((((h.put g 0 h1 h2 h0 _).put g 1 h1 h2 h0 _).put g 2 h1 h2 h0 _).put g 3 h1 h2 h0 _).put g 4 h1 h2 h0 _
/-- The row lies in no box of the walk. -/
def OwnFar (v : Value) (n : Nat) : Prop := v.ownBlock ≠ some (n + 1 + 1) ∧ v.ownBlock ≠ some (n + 1)
theorem OwnFar.next {v v' : Value} {n m : Nat} (h : OwnFar v n) (hm : n + 1 + 1 < m) (hv : v'.ownBlock = v.ownBlock ∨ ∃ g, m ≤ g ∧ v'.ownBlock = some g) : OwnFar v' n := by
  rcases hv with e | ⟨g, hg, e⟩
  · unfold OwnFar; rw [e]; exact h
  · unfold OwnFar; rw [e]; exact ⟨fun x => by injection x with x; omega, fun x => by injection x with x; omega⟩
theorem PlC.same {w w' : World} {b : Nat} {x y : Int} {r : Bool} (h : PlC w b x y r) (hs : w.heap.size ≤ w'.heap.size) (e : w'.heap[b]? = w.heap[b]?) : PlC w' b x y r :=
  ⟨Nat.lt_of_lt_of_le h.lt hs, (World.cell?_of_block (a := ⟨b, 0, none⟩) e).trans h.c0, (World.cell?_of_block (a := ⟨b, 1, none⟩) e).trans h.c1, (World.cell?_of_block (a := ⟨b, 2, none⟩) e).trans h.c2, fun j => (World.frozen?_of_block (a := ⟨b, j, none⟩) e).trans (h.fr j)⟩
end Go.Proofs.YtncopdhhchmpeaaGreatDoor
namespace Go.Proofs.YtncopdhhchmpeaaGreatDoor
open Go.ChangeShapes Go.WideShapes Go.ChangeAt Go.RowKit
set_option linter.unusedVariables false
set_option linter.unusedSimpArgs false
end Go.Proofs.YtncopdhhchmpeaaGreatDoor
namespace Go.Proofs.YtncopdhhchmpeaaGreatDoor
open Go.ChangeShapes Go.WideShapes Go.ChangeAt Go.RowKit
set_option linter.unusedVariables false
end Go.Proofs.YtncopdhhchmpeaaGreatDoor
namespace Go.Proofs.YtncopdhhchmpeaaGreatDoor
open Go.ChangeShapes Go.WideShapes Go.ChangeAt Go.RowKit
set_option linter.unusedVariables false
/-- A way that is remembered: from which root, which sheet; where it leads; through which nodes. -/
structure EW where
  k0 : Int
  k1 : Int
  k2 : Int
  k3 : Int
  k4 : Int
  sh : Int
  pg : Int
  at_ : Int
  ro : Bool
  ids : List Int
  na : Option Addr
  nc : Nat
/-- Its cells. -/
def EW.cs (e : EW) : List Value := [.int .i64 e.k0, .int .i64 e.k1, .int .i64 e.k2, .int .i64 e.k3, .int .u32 e.k4, .int .u32 e.sh, .int .i64 e.pg, .int .i64 e.at_, .bool e.ro, .slice e.na e.ids.length e.nc]
/-- The numbers of its nodes lie in a row apart. -/
def NodesIn (w : World) (N cb : Nat) (v : Value) (e : EW) : Prop := ∀ i, i < e.ids.length → ∃ g o, e.na = some ⟨g, o, none⟩ ∧ N ≤ g ∧ g < w.heap.size ∧ g ≠ cb ∧ v.ownBlock ≠ some g ∧ w.cell? ⟨g, o + i, none⟩ = some (.int .i64 (e.ids.getD i 0))
def ewCells (E : List EW) : List Value := E.flatMap EW.cs
structure CacheAt (w : World) (N cb : Nat) (size hits : Int) (v : Value) (E : List EW) : Prop where
  nb : N ≤ cb
  cl : cb < w.heap.size
  c0 : w.cell? ⟨cb, 0, none⟩ = some (.int .i64 size)
  c1 : w.cell? ⟨cb, 1, none⟩ = some (.int .i64 hits)
  c2 : w.cell? ⟨cb, 2, none⟩ = some v
  fr : ∀ j, w.frozen? ⟨cb, j, none⟩ = false
  row : w.ownsRow N 253 10 v E.length (ewCells E)
  ne : v.ownBlock ≠ some cb
  nd : ∀ e, e ∈ E → NodesIn w N cb v e
theorem CacheAt.same {w w' : World} {N cb : Nat} {size hits : Int} {v : Value} {E : List EW} (h : CacheAt w N cb size hits v E) (hs : w.heap.size ≤ w'.heap.size) (hk : ∀ k, N ≤ k → k < w.heap.size → w'.heap[k]? = w.heap[k]?) : CacheAt w' N cb size hits v E := by
  have e := hk cb h.nb h.cl
  refine ⟨h.nb, Nat.lt_of_lt_of_le h.cl hs, (World.cell?_of_block (a := ⟨cb, 0, none⟩) e).trans h.c0, (World.cell?_of_block (a := ⟨cb, 1, none⟩) e).trans h.c1, (World.cell?_of_block (a := ⟨cb, 2, none⟩) e).trans h.c2, fun j => (World.frozen?_of_block (a := ⟨cb, j, none⟩) e).trans (h.fr j), row_same' h.row (fun g hg => hk g (h.row.lt g hg).1 (h.row.lt g hg).2), h.ne, fun e he i hi => ?_⟩
  obtain ⟨g, o, h1, h2, h3, h4, h5, h6⟩ := h.nd e he i hi
  exact ⟨g, o, h1, h2, Nat.lt_of_lt_of_le h3 hs, h4, h5, (World.cell?_of_block (a := ⟨g, o + i, none⟩) (hk g h2 h3)).trans h6⟩
theorem CacheAt.below {w w' : World} {N cb : Nat} {size hits : Int} {v : Value} {E : List EW} (h : CacheAt w N cb size hits v E) (hb : Below w.heap.size w w') : CacheAt w' N cb size hits v E :=
  h.same hb.size (fun k _ hk => hb.block k hk)
theorem EW.cs_len (e : EW) : e.cs.length = 10 := rfl
theorem ewCells_get : ∀ (E : List EW) (k q : Nat) (e : EW), E[k]? = some e → q < 10 → (ewCells E)[k * 10 + q]? = e.cs[q]? := by
  intro E
  induction E with
  | nil => intro k q e h; simp at h
  | cons d E ih =>
    intro k q e h hq
    have hd := d.cs_len
    show (d.cs ++ ewCells E)[k * 10 + q]? = _
    cases k with
    | zero =>
      simp at h
      subst h
      rw [Nat.zero_mul, Nat.zero_add, List.getElem?_append_left (by omega)]
    | succ k =>
      simp at h
      rw [List.getElem?_append_right (by rw [hd]; omega), hd, show (k + 1) * 10 + q - 10 = k * 10 + q by omega]
      exact ih k q e h hq
theorem ewCells_snoc (E : List EW) (e : EW) : ewCells (E ++ [e]) = ewCells E ++ e.cs := by simp [ewCells]
theorem CacheAt.way {w : World} {N cb : Nat} {size hits : Int} {v : Value} {E : List EW} (h : CacheAt w N cb size hits v E) {g n c : Nat} (hv : v = .slice (some ⟨g, 0, none⟩) n c) (k : Nat) (e : EW) (he : E[k]? = some e) :
    w.cell? ⟨g, k * 10, none⟩ = some (.int .i64 e.k0) ∧ w.cell? ⟨g, k * 10 + 1, none⟩ = some (.int .i64 e.k1) ∧ w.cell? ⟨g, k * 10 + 2, none⟩ = some (.int .i64 e.k2) ∧ w.cell? ⟨g, k * 10 + 3, none⟩ = some (.int .i64 e.k3) ∧ w.cell? ⟨g, k * 10 + 4, none⟩ = some (.int .u32 e.k4) ∧ w.cell? ⟨g, k * 10 + 5, none⟩ = some (.int .u32 e.sh) ∧ w.cell? ⟨g, k * 10 + 6, none⟩ = some (.int .i64 e.pg) ∧ w.cell? ⟨g, k * 10 + 7, none⟩ = some (.int .i64 e.at_) ∧ w.cell? ⟨g, k * 10 + 8, none⟩ = some (.bool e.ro) ∧ w.cell? ⟨g, k * 10 + 9, none⟩ = some (.slice e.na e.ids.length e.nc) := by
  obtain ⟨a', c', hsh⟩ := own_shape' h.row
  have hn : n = E.length := by rw [hv] at hsh; injection hsh
  subst hv
  subst hn
  have hk : k < E.length := by
    rcases Nat.lt_or_ge k E.length with h' | h'
    · exact h'
    · rw [List.getElem?_eq_none h'] at he; cases he
  have hl := h.row.1
  have cell : ∀ q u, q < 10 → e.cs[q]? = some u → w.cell? ⟨g, k * 10 + q, none⟩ = some u := fun q u hq hu => by
    have hx : k * 10 + q < (ewCells E).length := by rw [hl]; omega
    have e1 := h.row.cellAt (k * 10 + q) (by omega)
    have e2 := ewCells_get E k q e he hq
    rw [e1, e2, hu]
  exact ⟨cell 0 _ (by decide) rfl, cell 1 _ (by decide) rfl, cell 2 _ (by decide) rfl, cell 3 _ (by decide) rfl, cell 4 _ (by decide) rfl, cell 5 _ (by decide) rfl, cell 6 _ (by decide) rfl, cell 7 _ (by decide) rfl, cell 8 _ (by decide) rfl, cell 9 _ (by decide) rfl⟩
/-- Each remembered way is one. -/
def WaysOk (a b : Shp) (th : Nat → Bool) (vr_ : Nat → Int) (W : Nat → Nat → Value) (th2 : Nat → Bool) (vr2 : Nat → Int) (E : List EW) : Prop :=
  ∀ e, e ∈ E → 0 ≤ e.sh ∧ ∀ x : Int, 0 ≤ x → x < 32 → Way a b th vr_ W th2 vr2 e.k0 e.k1 e.k2 e.k3 e.k4 5 (e.sh * 32 + x) false e.ids e.pg x e.ro 0
set_option maxRecDepth 100000 in
theorem cnew_ok (x : Int) (h1 : 1 ≤ x) (h2 : x ≤ 64) (w : World) :
    Calls Tryz.prog 167 #[.int .i64 x] w fun e w' => ∃ cb, e = .returned (.tuple #[.pointer (some ⟨cb, 0, none⟩), .nilIface]) ∧ CacheAt w' w.heap.size cb x 0 (.slice none 0 0) [] ∧ Below w.heap.size w w' := by
  have d1 : decide (x < 1) = false := decide_eq_false (by omega)
  have d2 : decide (64 < x) = false := decide_eq_false (by omega)
  go_enter Tryz.func167, Tryz.ntmps167
  go_wp2_with fail
  go_ret2
  exact ⟨_, rfl, ⟨Nat.le_refl _, by simp, by simp, by simp, by simp, fun j => by simp, World.ownsRow_nil _ _ _ _, by simp [Value.ownBlock], fun e he => by cases he⟩, (Below.refl _ _).alloc (Nat.le_refl _) _⟩
end Go.Proofs.YtncopdhhchmpeaaGreatDoor
namespace Go.Proofs.YtncopdhhchmpeaaGreatDoor
open Go.ChangeShapes Go.WideShapes Go.ChangeAt Go.RowKit
set_option linter.unusedVariables false
set_option linter.unusedSimpArgs false
/-- Is it the way from there? -/
abbrev EW.is (e : EW) (f0 f1 f2 f3 f4 f5 : Int) : Bool := e.k0 == f0 && (e.k1 == f1 && (e.k2 == f2 && (e.k3 == f3 && (e.k4 == f4 && e.sh == f5))))
/-- An origin lies there. -/
structure FromAt (w : World) (fb : Nat) (f0 f1 f2 f3 f4 f5 : Int) : Prop where
  lt : fb < w.heap.size
  c0 : w.cell? ⟨fb, 0, none⟩ = some (.int .i64 f0)
  c1 : w.cell? ⟨fb, 1, none⟩ = some (.int .i64 f1)
  c2 : w.cell? ⟨fb, 2, none⟩ = some (.int .i64 f2)
  c3 : w.cell? ⟨fb, 3, none⟩ = some (.int .i64 f3)
  c4 : w.cell? ⟨fb, 4, none⟩ = some (.int .u32 f4)
  c5 : w.cell? ⟨fb, 5, none⟩ = some (.int .u32 f5)
theorem FromAt.same {w w' : World} {fb : Nat} {f0 f1 f2 f3 f4 f5 : Int} (h : FromAt w fb f0 f1 f2 f3 f4 f5) (hs : w.heap.size ≤ w'.heap.size) (e : w'.heap[fb]? = w.heap[fb]?) : FromAt w' fb f0 f1 f2 f3 f4 f5 :=
  ⟨Nat.lt_of_lt_of_le h.lt hs, (World.cell?_of_block (a := ⟨fb, 0, none⟩) e).trans h.c0, (World.cell?_of_block (a := ⟨fb, 1, none⟩) e).trans h.c1, (World.cell?_of_block (a := ⟨fb, 2, none⟩) e).trans h.c2, (World.cell?_of_block (a := ⟨fb, 3, none⟩) e).trans h.c3, (World.cell?_of_block (a := ⟨fb, 4, none⟩) e).trans h.c4, (World.cell?_of_block (a := ⟨fb, 5, none⟩) e).trans h.c5⟩
theorem FromAt.below {w w' : World} {fb : Nat} {f0 f1 f2 f3 f4 f5 : Int} (h : FromAt w fb f0 f1 f2 f3 f4 f5) (hb : Below w.heap.size w w') : FromAt w' fb f0 f1 f2 f3 f4 f5 :=
  ⟨Nat.lt_of_lt_of_le h.lt hb.size, (hb.cell (p := ⟨fb, 0, none⟩) h.lt).trans h.c0, (hb.cell (p := ⟨fb, 1, none⟩) h.lt).trans h.c1, (hb.cell (p := ⟨fb, 2, none⟩) h.lt).trans h.c2, (hb.cell (p := ⟨fb, 3, none⟩) h.lt).trans h.c3, (hb.cell (p := ⟨fb, 4, none⟩) h.lt).trans h.c4, (hb.cell (p := ⟨fb, 5, none⟩) h.lt).trans h.c5⟩
theorem CacheAt.shape {w : World} {N cb : Nat} {size hits : Int} {v : Value} {E : List EW} (h : CacheAt w N cb size hits v E) : ∃ a c, v = .slice a E.length c := own_shape' h.row
theorem CacheAt.row1 {w : World} {N cb : Nat} {size hits : Int} {v : Value} {E : List EW} (h : CacheAt w N cb size hits v E) (hn : 0 < E.length) : ∃ g c, v = .slice (some ⟨g, 0, none⟩) E.length c := own_some' h.row hn
theorem getE {E : List EW} {k : Nat} (h : k < E.length) : ∃ e, E[k]? = some e := ⟨_, List.getElem?_eq_getElem h⟩
end Go.Proofs.YtncopdhhchmpeaaGreatDoor
namespace Go.Proofs.YtncopdhhchmpeaaGreatDoor
open Go.ChangeShapes Go.WideShapes Go.ChangeAt Go.RowKit
set_option linter.unusedVariables false
set_option linter.unusedSimpArgs false
section
variable {P : Program}
end
/-- All blocks but the cache's own are as they were. -/
def KeepB (w w' : World) (cb : Nat) (v : Value) : Prop := w.heap.size ≤ w'.heap.size ∧ ∀ k, k < w.heap.size → k ≠ cb → v.ownBlock ≠ some k → w'.heap[k]? = w.heap[k]?
/-- A way in a box. -/
structure WayAt (w : World) (b : Nat) (d : EW) : Prop where
  lt : b < w.heap.size
  c0 : w.cell? ⟨b, 0, none⟩ = some (.int .i64 d.k0)
  c1 : w.cell? ⟨b, 1, none⟩ = some (.int .i64 d.k1)
  c2 : w.cell? ⟨b, 2, none⟩ = some (.int .i64 d.k2)
  c3 : w.cell? ⟨b, 3, none⟩ = some (.int .i64 d.k3)
  c4 : w.cell? ⟨b, 4, none⟩ = some (.int .u32 d.k4)
  c5 : w.cell? ⟨b, 5, none⟩ = some (.int .u32 d.sh)
  c6 : w.cell? ⟨b, 6, none⟩ = some (.int .i64 d.pg)
  c7 : w.cell? ⟨b, 7, none⟩ = some (.int .i64 d.at_)
  c8 : w.cell? ⟨b, 8, none⟩ = some (.bool d.ro)
  c9 : w.cell? ⟨b, 9, none⟩ = some (.slice d.na d.ids.length d.nc)
theorem WayAt.same {w w' : World} {b : Nat} {d : EW} (h : WayAt w b d) (hs : w.heap.size ≤ w'.heap.size) (e : w'.heap[b]? = w.heap[b]?) : WayAt w' b d :=
  ⟨Nat.lt_of_lt_of_le h.lt hs, (World.cell?_of_block (a := ⟨b, 0, none⟩) e).trans h.c0, (World.cell?_of_block (a := ⟨b, 1, none⟩) e).trans h.c1, (World.cell?_of_block (a := ⟨b, 2, none⟩) e).trans h.c2, (World.cell?_of_block (a := ⟨b, 3, none⟩) e).trans h.c3, (World.cell?_of_block (a := ⟨b, 4, none⟩) e).trans h.c4, (World.cell?_of_block (a := ⟨b, 5, none⟩) e).trans h.c5, (World.cell?_of_block (a := ⟨b, 6, none⟩) e).trans h.c6, (World.cell?_of_block (a := ⟨b, 7, none⟩) e).trans h.c7, (World.cell?_of_block (a := ⟨b, 8, none⟩) e).trans h.c8, (World.cell?_of_block (a := ⟨b, 9, none⟩) e).trans h.c9⟩
theorem WayAt.below {w w' : World} {b : Nat} {d : EW} (h : WayAt w b d) (hb : Below w.heap.size w w') : WayAt w' b d := h.same hb.size (hb.block b h.lt)
theorem WayAt.new (w : World) (d : EW) (T : TypeId) : WayAt (w.alloc (.cells #[.int .i64 d.k0, .int .i64 d.k1, .int .i64 d.k2, .int .i64 d.k3, .int .u32 d.k4, .int .u32 d.sh, .int .i64 d.pg, .int .i64 d.at_, .bool d.ro, .slice d.na d.ids.length d.nc] T (0, 0))) w.heap.size d := ⟨by simp, by simp, by simp, by simp, by simp, by simp, by simp, by simp, by simp, by simp, by simp⟩
theorem WayAt.all {w : World} {b : Nat} {d : EW} (h : WayAt w b d) : (World.cell? w ⟨b, 0, none⟩ = some (.int .i64 d.k0) ∧ World.cell? w ⟨b, 1, none⟩ = some (.int .i64 d.k1) ∧ World.cell? w ⟨b, 2, none⟩ = some (.int .i64 d.k2) ∧ World.cell? w ⟨b, 3, none⟩ = some (.int .i64 d.k3) ∧ World.cell? w ⟨b, 4, none⟩ = some (.int .u32 d.k4) ∧ World.cell? w ⟨b, 5, none⟩ = some (.int .u32 d.sh) ∧ World.cell? w ⟨b, 6, none⟩ = some (.int .i64 d.pg) ∧ World.cell? w ⟨b, 7, none⟩ = some (.int .i64 d.at_) ∧ World.cell? w ⟨b, 8, none⟩ = some (.bool d.ro) ∧ World.cell? w ⟨b, 9, none⟩ = some (.slice d.na d.ids.length d.nc)) := ⟨h.c0, h.c1, h.c2, h.c3, h.c4, h.c5, h.c6, h.c7, h.c8, h.c9⟩
end Go.Proofs.YtncopdhhchmpeaaGreatDoor
namespace Go.Proofs.YtncopdhhchmpeaaGreatDoor
open Go.ChangeShapes Go.WideShapes Go.ChangeAt Go.RowKit
set_option linter.unusedVariables false
set_option linter.unusedSimpArgs false
/-- The first that is so. -/
theorem firstE (p : EW → Bool) : ∀ E : List EW, (∀ e, e ∈ E → p e = false) ∨ ∃ (j : Nat) (d : EW), E[j]? = some d ∧ p d = true ∧ ∀ (i : Nat) (e : EW), i < j → E[i]? = some e → p e = false := by
  intro E
  induction E with
  | nil => exact .inl (fun e he => by cases he)
  | cons x E ih =>
    cases hx : p x with
    | true => exact .inr ⟨0, x, rfl, hx, fun i e hi => by omega⟩
    | false =>
      rcases ih with h | ⟨j, d, h1, h2, h3⟩
      · exact .inl (fun e he => by rcases List.mem_cons.1 he with rfl | he; exact hx; exact h e he)
      · refine .inr ⟨j + 1, d, by simpa using h1, h2, fun i e hi he => ?_⟩
        cases i with
        | zero => simp at he; rw [← he]; exact hx
        | succ i => exact h3 i e (by omega) (by simpa using he)
/-- No way's numbers lie in block x. -/
def NoNode (E : List EW) (x : Nat) : Prop := ∀ e, e ∈ E → 0 < e.ids.length → ∀ g o, e.na = some ⟨g, o, none⟩ → g ≠ x
theorem KeyC.same' {w w' : World} {b : Nat} {k0 k1 k2 k3 k4 : Int} (h : KeyC w b k0 k1 k2 k3 k4) (hs : w.heap.size ≤ w'.heap.size) (e : w'.heap[b]? = w.heap[b]?) : KeyC w' b k0 k1 k2 k3 k4 :=
  ⟨Nat.lt_of_lt_of_le h.lt hs, (World.cell?_of_block (a := ⟨b, 0, none⟩) e).trans h.c0, (World.cell?_of_block (a := ⟨b, 1, none⟩) e).trans h.c1, (World.cell?_of_block (a := ⟨b, 2, none⟩) e).trans h.c2, (World.cell?_of_block (a := ⟨b, 3, none⟩) e).trans h.c3, (World.cell?_of_block (a := ⟨b, 4, none⟩) e).trans h.c4, fun j => (World.frozen?_of_block (a := ⟨b, j, none⟩) e).trans (h.fr j)⟩
theorem CacheAt.put {w : World} {N cb : Nat} {size hits : Int} {v : Value} {E : List EW} (h : CacheAt w N cb size hits v E) (x j : Nat) (h1 : cb ≠ x) (h2 : v.ownBlock ≠ some x) (h3 : ∀ e, e ∈ E → 0 < e.ids.length → ∀ g o, e.na = some ⟨g, o, none⟩ → g ≠ x) (u : Value) : CacheAt (w.setCell ⟨x, j, none⟩ u) N cb size hits v E := by
  have e := set_heap w x cb j u h1
  refine ⟨h.nb, by simpa using h.cl, (World.cell?_of_block (a := ⟨cb, 0, none⟩) e).trans h.c0, (World.cell?_of_block (a := ⟨cb, 1, none⟩) e).trans h.c1, (World.cell?_of_block (a := ⟨cb, 2, none⟩) e).trans h.c2, fun j => (World.frozen?_of_block (a := ⟨cb, j, none⟩) e).trans (h.fr j), row_same' h.row (fun g hg => set_heap _ _ _ _ _ (fun e => h2 (by rw [hg, e]))), h.ne, fun d hd i hi => ?_⟩
  obtain ⟨g, o, a1, a2, a3, a4, a5, a6⟩ := h.nd d hd i hi
  exact ⟨g, o, a1, a2, by simpa using a3, a4, a5, (World.cell?_of_block (a := ⟨g, o + i, none⟩) (set_heap _ _ _ _ _ (h3 d hd (by omega) g o a1))).trans a6⟩
theorem CacheAt.noNode {w : World} {N cb : Nat} {size hits : Int} {v : Value} {E : List EW} (h : CacheAt w N cb size hits v E) (x : Nat) (hx : w.heap.size ≤ x) : NoNode E x := fun e he hl g o hna => by
  obtain ⟨g2, o2, b1, b2, b3, b4, b5, b6⟩ := h.nd e he 0 hl
  rw [hna] at b1
  injection b1 with b1
  injection b1 with b1 b1'
  omega
end Go.Proofs.YtncopdhhchmpeaaGreatDoor
namespace Go.Proofs.YtncopdhhchmpeaaGreatDoor
open Go.ChangeShapes Go.WideShapes Go.ChangeAt Go.RowKit
set_option linter.unusedVariables false
set_option linter.unusedSimpArgs false
/-- A block that is none of the cache's. -/
def OutC (cb : Nat) (v : Value) (x : Nat) : Prop := x ≠ cb ∧ v.ownBlock ≠ some x
theorem OutC.next {cb : Nat} {v v' : Value} {x M : Nat} (h : OutC cb v x) (hx : x < M) (hv : v'.ownBlock = v.ownBlock ∨ ∃ g, M ≤ g ∧ v'.ownBlock = some g) : OutC cb v' x := by
  refine ⟨h.1, fun e => ?_⟩
  rcases hv with e' | ⟨g, hg, e'⟩
  · exact h.2 (by rw [← e', e])
  · rw [e'] at e; injection e with e; omega
/-- A memory over a law's start: a store, a cache over it. -/
structure MemAt (w0 w : World) (mb S : Nat) (a b : Shp) (N cb : Nat) (size : Int) (th : Nat → Bool) (vr_ : Nat → Int) (W : Nat → Nat → Value) (th2 : Nat → Bool) (vr2 : Nat → Int) (W2 : Nat → Nat → Int) (hits : Int) (v : Value) (E : List EW) : Prop where
  sv : SV w0 w S a b th vr_ W th2 vr2 W2
  lo : StLo S a b N
  n0 : w0.heap.size ≤ N
  nN : N ≤ w.heap.size
  m0 : w.cell? ⟨mb, 0, none⟩ = some (.pointer (some ⟨S, 0, none⟩))
  m1 : w.cell? ⟨mb, 1, none⟩ = some (.pointer (some ⟨cb, 0, none⟩))
  ml : mb < w.heap.size
  mn : N ≤ mb
  mo : OutC cb v mb
  ca : CacheAt w N cb size hits v E
  ok : WaysOk a b th vr_ W th2 vr2 E
section
variable {w w' : World}
theorem MemAt.below {w0 : World} {mb S : Nat} {a b : Shp} {N cb : Nat} {size : Int} {th : Nat → Bool} {vr_ : Nat → Int} {W : Nat → Nat → Value} {th2 : Nat → Bool} {vr2 : Nat → Int} {W2 : Nat → Nat → Int} {hits : Int} {v : Value} {E : List EW} (h : (MemAt w0 w mb S a b N cb size th vr_ W th2 vr2 W2 hits v E)) (hb : Below w.heap.size w w') : (MemAt w0 w' mb S a b N cb size th vr_ W th2 vr2 W2 hits v E) :=
  ⟨h.sv.step hb, h.lo, h.n0, Nat.le_trans h.nN hb.size, (hb.cell (p := ⟨mb, 0, none⟩) h.ml).trans h.m0, (hb.cell (p := ⟨mb, 1, none⟩) h.ml).trans h.m1, Nat.lt_of_lt_of_le h.ml hb.size, h.mn, h.mo, h.ca.below hb, h.ok⟩
theorem MemAt.found {w0 : World} {mb S : Nat} {a b : Shp} {N cb : Nat} {size : Int} {th : Nat → Bool} {vr_ : Nat → Int} {W : Nat → Nat → Value} {th2 : Nat → Bool} {vr2 : Nat → Int} {W2 : Nat → Nat → Int} {hits : Int} {v : Value} {E : List EW} (h : (MemAt w0 w mb S a b N cb size th vr_ W th2 vr2 W2 hits v E)) {hits' : Int} {v' : Value} {E' : List EW} (hb : Below N w w') (hc : CacheAt w' N cb size hits' v' E') (ok : WaysOk a b th vr_ W th2 vr2 E') (hk : KeepB w w' cb v) (hv : v'.ownBlock = v.ownBlock ∨ ∃ g, w.heap.size ≤ g ∧ v'.ownBlock = some g) : MemAt w0 w' mb S a b N cb size th vr_ W th2 vr2 W2 hits' v' E' := by
  have e := hk.2 mb h.ml h.mo.1 h.mo.2
  refine ⟨⟨h.sv.bel.trans (hb.mono h.n0), h.sv.wb, h.sv.st.under h.lo hk.1 (fun k hkN => hb.block k hkN)⟩, h.lo, h.n0, Nat.le_trans h.nN hk.1, (World.cell?_of_block (a := ⟨mb, 0, none⟩) e).trans h.m0, (World.cell?_of_block (a := ⟨mb, 1, none⟩) e).trans h.m1, Nat.lt_of_lt_of_le h.ml hk.1, h.mn, h.mo.next h.ml hv, hc, ok⟩
/-- The store's pages were written; the ways stay. -/
theorem MemAt.page {w0 : World} {mb S : Nat} {a b : Shp} {N cb : Nat} {size : Int} {th : Nat → Bool} {vr_ : Nat → Int} {W : Nat → Nat → Value} {th2 : Nat → Bool} {vr2 : Nat → Int} {W2 : Nat → Nat → Int} {hits : Int} {v : Value} {E : List EW} (h : (MemAt w0 w mb S a b N cb size th vr_ W th2 vr2 W2 hits v E)) {th2' : Nat → Bool} {vr2' : Nat → Int} {W2' : Nat → Nat → Int} (hP : PgAt w' b.b b.P b.p b.B b.G b.n b.c th2' vr2' W2') (hb : PBelow w w' b.B b.G) (ok : WaysOk a b th vr_ W th2' vr2' E) : MemAt w0 w' mb S a b N cb size th vr_ W th2' vr2' W2' hits v E := by
  have hl := h.lo.p
  have e := hb.2.2.2.2 mb h.ml (by have := h.mn; omega) (by have := h.mn; omega)
  exact ⟨h.sv.page hP hb, h.lo, h.n0, Nat.le_trans h.nN hb.2.2.2.1, (World.cell?_of_block (a := ⟨mb, 0, none⟩) e).trans h.m0, (World.cell?_of_block (a := ⟨mb, 1, none⟩) e).trans h.m1, Nat.lt_of_lt_of_le h.ml hb.2.2.2.1, h.mn, h.mo, h.ca.same hb.2.2.2.1 (fun k hk hks => hb.2.2.2.2 k hks (by omega) (by omega)), ok⟩
theorem MemAt.node {w0 : World} {mb S : Nat} {a b : Shp} {N cb : Nat} {size : Int} {th : Nat → Bool} {vr_ : Nat → Int} {W : Nat → Nat → Value} {th2 : Nat → Bool} {vr2 : Nat → Int} {W2 : Nat → Nat → Int} {hits : Int} {v : Value} {E : List EW} (h : (MemAt w0 w mb S a b N cb size th vr_ W th2 vr2 W2 hits v E)) {th' : Nat → Bool} {vr' : Nat → Int} {W' : Nat → Nat → Value} (hN : NdAt w' a.b a.P a.p a.B a.G a.n a.c th' vr' W') (hb : PBelow w w' a.B a.G) (ok : WaysOk a b th' vr' W' th2 vr2 E) : MemAt w0 w' mb S a b N cb size th' vr' W' th2 vr2 W2 hits v E := by
  have hl := h.lo.n
  have e := hb.2.2.2.2 mb h.ml (by have := h.mn; omega) (by have := h.mn; omega)
  exact ⟨h.sv.node hN hb, h.lo, h.n0, Nat.le_trans h.nN hb.2.2.2.1, (World.cell?_of_block (a := ⟨mb, 0, none⟩) e).trans h.m0, (World.cell?_of_block (a := ⟨mb, 1, none⟩) e).trans h.m1, Nat.lt_of_lt_of_le h.ml hb.2.2.2.1, h.mn, h.mo, h.ca.same hb.2.2.2.1 (fun k hk hks => hb.2.2.2.2 k hks (by omega) (by omega)), ok⟩
theorem MemAt.put {w0 : World} {mb S : Nat} {a b : Shp} {N cb : Nat} {size : Int} {th : Nat → Bool} {vr_ : Nat → Int} {W : Nat → Nat → Value} {th2 : Nat → Bool} {vr2 : Nat → Int} {W2 : Nat → Nat → Int} {hits : Int} {v : Value} {E : List EW} (h : (MemAt w0 w mb S a b N cb size th vr_ W th2 vr2 W2 hits v E)) (x j : Nat) (hx : N ≤ x) (h1 : cb ≠ x) (h2 : mb ≠ x) (h3 : v.ownBlock ≠ some x) (h4 : NoNode E x) (u : Value) : MemAt w0 (w.setCell ⟨x, j, none⟩ u) mb S a b N cb size th vr_ W th2 vr2 W2 hits v E := by
  have e := set_heap w x mb j u h2
  exact ⟨h.sv.put1 h.lo x j hx h.n0 u, h.lo, h.n0, by simpa using h.nN, (World.cell?_of_block (a := ⟨mb, 0, none⟩) e).trans h.m0, (World.cell?_of_block (a := ⟨mb, 1, none⟩) e).trans h.m1, by simpa using h.ml, h.mn, h.mo, h.ca.put x j h1 h3 h4 u, h.ok⟩
end
theorem ways_nil {a b : Shp} {th : Nat → Bool} {vr_ : Nat → Int} {W : Nat → Nat → Value} {th2 : Nat → Bool} {vr2 : Nat → Int} : WaysOk a b th vr_ W th2 vr2 [] := fun e he => by cases he
end Go.Proofs.YtncopdhhchmpeaaGreatDoor
namespace Go.Proofs.YtncopdhhchmpeaaGreatDoor
open Go.ChangeShapes Go.WideShapes Go.ChangeAt Go.RowKit
set_option linter.unusedVariables false
set_option linter.unusedSimpArgs false
/-- What lies above the store, and is none of the cache's, is as it was. -/
def KeepM (w w' : World) (N cb : Nat) (v : Value) : Prop := w.heap.size ≤ w'.heap.size ∧ ∀ k, N ≤ k → k < w.heap.size → k ≠ cb → v.ownBlock ≠ some k → w'.heap[k]? = w.heap[k]?
end Go.Proofs.YtncopdhhchmpeaaGreatDoor
namespace Go.Proofs.YtncopdhhchmpeaaGreatDoor
open Go.ChangeShapes Go.WideShapes Go.ChangeAt Go.RowKit
set_option linter.unusedVariables false
set_option linter.unusedSimpArgs false
end Go.Proofs.YtncopdhhchmpeaaGreatDoor
namespace Go.Proofs.YtncopdhhchmpeaaGreatDoor
open Go.ChangeShapes Go.WideShapes Go.ChangeAt Go.RowKit
set_option linter.unusedVariables false
set_option linter.unusedSimpArgs false
set_option maxRecDepth 100000 in
theorem mover_ok (S : Nat) (z : Int) (h1 : 1 ≤ z) (h2 : z ≤ 64) (w : World) :
    Calls Tryz.prog 126 #[.pointer (some ⟨S, 0, none⟩), .int .i64 z] w fun e w' => ∃ mb cb, e = .returned (.tuple #[.pointer (some ⟨mb, 0, none⟩), .nilIface]) ∧ CacheAt w' w.heap.size cb z 0 (.slice none 0 0) [] ∧ (w.heap.size ≤ mb ∧ mb < w'.heap.size ∧ mb ≠ cb ∧ w'.cell? ⟨mb, 0, none⟩ = some (.pointer (some ⟨S, 0, none⟩)) ∧ w'.cell? ⟨mb, 1, none⟩ = some (.pointer (some ⟨cb, 0, none⟩))) ∧ Below w.heap.size w w' := by
  go_enter Tryz.func126, Tryz.ntmps126
  go_wp2_with (first
    | (go_at_call 167; (with_reducible refine (cnew_ok z h1 h2 _).mono ?_); rintro e w1 ⟨cb, rfl, hc, hb⟩; have HC := Lib.hid hc; have HB := Lib.hid hb; clear hc hb))
  go_ret2
  exact ⟨w1.heap.size, cb, rfl, HC.out.below ((Below.refl _ _).alloc (Nat.le_refl _) _), ⟨HB.out.size, by simp, by have := HC.out.cl; omega, by simp, by simp⟩, HB.out.alloc HB.out.size _⟩
set_option maxRecDepth 100000 in
theorem mnew_ok (x y z : Int) (n m : Nat) (hx : Hid (x = n)) (hy : Hid (y = m)) (h1 : 1 ≤ n) (h2 : n ≤ 256) (h3 : 1 ≤ m) (h4 : m ≤ 256) (z1 : 1 ≤ z) (z2 : z ≤ 64) (w : World) :
    Calls Tryz.prog 83 #[.int .i64 x, .int .i64 y, .int .i64 z] w fun e w' => ∃ mb S a b N cb, e = .returned (.tuple #[.pointer (some ⟨mb, 0, none⟩), .nilIface]) ∧ MemAt w w' mb S a b N cb z (fun _ => false) (fun _ => 0) (fun _ b => zc b) (fun _ => false) (fun _ => 0) (fun _ _ => 0) 0 (.slice none 0 0) [] ∧ Hid (a.n = n ∧ b.n = m) := by
  go_enter Tryz.func83, Tryz.ntmps83
  go_wp2_with (first
    | (go_at_call 125; (with_reducible refine (snew_ok x y n m hx hy h1 h2 h3 h4 _).mono ?_); rintro e w1 ⟨S, a, b, rfl, hs, hn, hb⟩; have HS : Hid (SV w w1 S a b _ _ _ _ _ _) := Lib.hid ⟨hb, by rw [hn.out.2.2]; exact Nat.le_refl _, hs⟩; have HN := Lib.hid hn.out; clear hs hn hb)
    | (go_at_call 126; (with_reducible refine (mover_ok S z z1 z2 _).mono ?_); rintro e w2 ⟨mb, cb, rfl, hc, hm, hb⟩; have HC := Lib.hid hc; have HM := Lib.hid hm; have HB := Lib.hid hb; clear hc hm hb))
  go_ret2
  obtain ⟨m1, m2, m3, m4, m5⟩ := HM.out
  exact ⟨mb, S, a, b, w1.heap.size, cb, rfl, ⟨HS.out.step HB.out, HS.out.st.lo, HS.out.bel.size, HB.out.size, m4, m5, m2, m1, ⟨m3, by simp [Value.ownBlock]⟩, HC.out, ways_nil⟩, Lib.hid ⟨HN.out.1, HN.out.2.1⟩⟩
end Go.Proofs.YtncopdhhchmpeaaGreatDoor
namespace Go.Proofs.YtncopdhhchmpeaaGreatDoor
open Go.ChangeShapes Go.WideShapes Go.ChangeAt Go.RowKit
set_option linter.unusedVariables false
set_option linter.unusedSimpArgs false
theorem MemAt.over {w0 : World} {mb S : Nat} {a b : Shp} {N cb : Nat} {size : Int} {th : Nat → Bool} {vr_ : Nat → Int} {W : Nat → Nat → Value} {th2 : Nat → Bool} {vr2 : Nat → Int} {W2 : Nat → Nat → Int} {hits : Int} {v : Value} {E : List EW} {w w1 : World} (h : (MemAt w0 w mb S a b N cb size th vr_ W th2 vr2 W2 hits v E)) (h1 : Below w1.heap.size w1 w0) : MemAt w1 w mb S a b N cb size th vr_ W th2 vr2 W2 hits v E :=
  ⟨⟨h1.trans (h.sv.bel.mono h1.size), Nat.le_trans h1.size h.sv.wb, h.sv.st⟩, h.lo, Nat.le_trans h1.size h.n0, h.nN, h.m0, h.m1, h.ml, h.mn, h.mo, h.ca, h.ok⟩
theorem KeyC.keep {w w' : World} {kb N cb : Nat} {v : Value} {k0 k1 k2 k3 k4 : Int} (h : KeyC w kb k0 k1 k2 k3 k4) (hk : KeepM w w' N cb v) (hN : N ≤ kb) (ho : OutC cb v kb) : KeyC w' kb k0 k1 k2 k3 k4 := h.same' hk.1 (hk.2 kb hN h.lt ho.1 ho.2)
end Go.Proofs.YtncopdhhchmpeaaGreatDoor
namespace Go.Proofs.YtncopdhhchmpeaaGreatDoor
open Go.ChangeShapes Go.WideShapes Go.ChangeAt Go.RowKit
set_option linter.unusedVariables false
set_option linter.unusedSimpArgs false
section
variable {w w1 : World}
end
end Go.Proofs.YtncopdhhchmpeaaGreatDoor
namespace Go.Proofs.YtncopdhhchmpeaaGreatDoor
open Go.ChangeShapes Go.WideShapes Go.ChangeAt Go.RowKit
set_option linter.unusedVariables false
set_option linter.unusedSimpArgs false
theorem RowS.base {w : World} {b b' : Nat} {T : TypeId} {s G n : Nat} {W : Nat → Nat → Value} (h : RowS w b T s G n W) (hb : b' ≤ b) : RowS w b' T s G n W := by
  refine ⟨h.1, ?_⟩
  rcases h.2 with hn | ⟨g', cap, cur, e', hB, hg, rest⟩
  · exact .inl hn
  · exact .inr ⟨g', cap, cur, e', Nat.le_trans hb hB, hg, rest⟩
/-- Banks being made. -/
structure B0 (B : Nat) (w1 w : World) (n : Nat) (oA : Option Nat) (g : List Nat) : Prop where
  bel : Below w1.heap.size w1 w
  a : ∀ A, oA = some A → w1.heap.size ≤ A ∧ RowS w B 124 3 A n (acS (fun _ => 0) (fun _ => 0) (fun _ => 0))
  t : ∀ G, G ∈ g → w1.heap.size ≤ G ∧ RowS w B 158 2 G 256 (tiS (fun _ => -1) (fun _ => 0))
  nd : (oA.toList ++ g).Nodup
theorem infoAcc : (Tryz.prog.info? 124).map (fun i => (i.zero, i.size, i.bytes)) = some (some (.agg #[.int .i64 0, .int .i64 0, .int .i64 0]), 3, 24) := by kernel_rfl
theorem B0.mk_ {B : Nat} {w1 w w' : World} {n : Nat} {g : List Nat} (h : B0 B w1 w n none g) (A : Nat) (hA : w.heap.size = A) (hown : w'.ownsRow B 124 3 (.slice (some ⟨A, 0, none⟩) n n) n (madeCells #[Value.int .i64 0, .int .i64 0, .int .i64 0] (n * 3)).toList) (hgrow : w.grownBy w' none) : B0 B w1 w' n (some A) g := by
  have hb : Below w.heap.size w w' := (Below.refl _ _).grown hgrow (Nat.le_refl _) (fun k hk => by cases hk)
  refine ⟨h.bel.trans (hb.mono h.bel.size), fun A' e => ?_, fun G hG => ⟨(h.t G hG).1, (h.t G hG).2.same (hb.block G (h.t G hG).2.lt.2)⟩, ?_⟩
  · injection e with e
    subst e
    refine ⟨by rw [← hA]; exact h.bel.size, ?_⟩
    have h2 := flatS_made [Value.int .i64 0, .int .i64 0, .int .i64 0] n (by decide)
    rw [show [Value.int .i64 0, .int .i64 0, .int .i64 0].length = 3 from rfl] at h2
    unfold RowS
    rw [flatS_congr 3 _ (fun _ b => [Value.int .i64 0, .int .i64 0, .int .i64 0].getD b (.int .i64 0)) n (by decide) (fun i j _ hj => by rcases (show j = 0 ∨ j = 1 ∨ j = 2 by omega) with rfl | rfl | rfl <;> simp [acS]), ← h2]
    exact hown
  · have hn := h.nd
    simp only [Option.toList_none, List.nil_append] at hn
    simp only [Option.toList_some, List.singleton_append, List.nodup_cons]
    exact ⟨fun hm => by have := (h.t A hm).2.lt.2; omega, hn⟩
theorem B0.own {B : Nat} {w1 w w' : World} {n : Nat} {oA : Option Nat} {g : List Nat} (h : B0 B w1 w n oA g) (hB : B ≤ w1.heap.size) (G : Nat) (hr : TiR w' w.heap.size G 256) (hb : Below w.heap.size w w') : B0 B w1 w' n oA (g ++ [G]) := by
  have hlt := RowS.lt hr
  refine ⟨h.bel.trans (hb.mono h.bel.size), fun A e => ⟨(h.a A e).1, (h.a A e).2.same (hb.block A (h.a A e).2.lt.2)⟩, fun G' hG => ?_, ?_⟩
  · rcases List.mem_append.1 hG with hG | hG
    · exact ⟨(h.t G' hG).1, (h.t G' hG).2.same (hb.block G' (h.t G' hG).2.lt.2)⟩
    · simp at hG
      subst hG
      refine ⟨Nat.le_trans h.bel.size hlt.1, (RowS.congr hr (by decide) (fun i j hi _ => ?_)).base (Nat.le_trans hB h.bel.size)⟩
      simp [tiS, loB, hi]
  · rw [← List.append_assoc, List.nodup_append]
    refine ⟨h.nd, by simp, fun x hx y hy => ?_⟩
    simp at hy
    subst hy
    rcases List.mem_append.1 hx with hx | hx
    · have := (h.a x (by simpa using hx)).2.lt.2
      omega
    · have := (h.t x hx).2.lt.2
      omega
theorem B0.done {w0 w1 w w2 : World} {n p B A G1 G2 G3 mb db : Nat} (hA : ArAt w1 w0.heap.size p B n n (fun _ => false) (fun _ => 0)) (hb : Below w0.heap.size w0 w1) (h : B0 w0.heap.size w1 w n (some A) [G1, G2, G3]) (T : TypeId) (h2 : w2 = w.alloc (.cells #[.pointer (some ⟨p, 0, none⟩), .pointer (some ⟨mb, 0, none⟩), .pointer (some ⟨db, 0, none⟩), .slice (some ⟨A, 0, none⟩) n n, .slice (some ⟨G1, 0, none⟩) 256 256, .slice (some ⟨G2, 0, none⟩) 256 256, .slice (some ⟨G3, 0, none⟩) 256 256] T (0, 0))) : BkAt w2 w0.heap.size w.heap.size p B A G1 G2 G3 n n mb db (fun _ => false) (fun _ => 0) (fun _ => 0) (fun _ => 0) (fun _ => 0) (fun _ => -1) (fun _ => 0) (fun _ => -1) (fun _ => 0) (fun _ => -1) (fun _ => 0) ∧ Below w0.heap.size w0 w2 := by
  subst h2
  have hp := hA.pl
  have hB := hA.lt
  have hAa := h.a A rfl
  have t1 := h.t G1 (by simp)
  have t2 := h.t G2 (by simp)
  have t3 := h.t G3 (by simp)
  have l1 := t1.2.lt
  have l2 := t2.2.lt
  have l3 := t3.2.lt
  have lA := hAa.2.lt
  have hnd := h.nd
  simp at hnd
  have hs := h.bel.size
  have hs1 := hb.size
  have h2' : ∀ o, Below w.heap.size w (w.alloc o) := fun o => (Below.refl _ _).alloc (Nat.le_refl _) o
  have sm : ∀ {T : TypeId} {s G m : Nat} {W : Nat → Nat → Value} (o : Obj), RowS w w0.heap.size T s G m W → RowS (w.alloc o) w0.heap.size T s G m W := fun o hr => hr.same ((h2' o).block _ hr.lt.2)
  obtain ⟨⟨a1, a2, a3⟩, ⟨b1, b2⟩, c1⟩ := hnd
  exact ⟨⟨by simp, by omega, by simp, by simp, by simp, by simp, by simp, by simp, by simp, (hA.below h.bel).below (h2' _), sm _ hAa.2, sm _ t1.2, sm _ t2.2, sm _ t3.2, ⟨by omega, by omega, by omega, by omega, by omega, by omega, by omega, by omega, by omega, by omega, a1, a2, a3, by omega, by omega, by omega, b1, b2, c1⟩⟩, (hb.trans (h.bel.mono hs1)).alloc (by omega) _⟩
set_option maxRecDepth 100000 in
set_option maxHeartbeats 2000000 in
theorem bknew_ok (x : Int) (n mb db : Nat) (hx : Hid (x = n)) (h1 : 1 ≤ n) (h2 : n ≤ 256) (w : World) :
    Calls Tryz.prog 86 #[.int .i64 x, .pointer (some ⟨mb, 0, none⟩), .pointer (some ⟨db, 0, none⟩)] w fun e w' => ∃ P p B A G1 G2 G3, e = .returned (.tuple #[.pointer (some ⟨P, 0, none⟩), .nilIface]) ∧ BkAt w' w.heap.size P p B A G1 G2 G3 n n mb db (fun _ => false) (fun _ => 0) (fun _ => 0) (fun _ => 0) (fun _ => 0) (fun _ => -1) (fun _ => 0) (fun _ => -1) (fun _ => 0) (fun _ => -1) (fun _ => 0) ∧ Below w.heap.size w w' := by
  rw [hx.out]
  obtain ⟨i0, hi, hz0, hz1, hz2⟩ := info_parts infoAcc
  have HI := Lib.hid (⟨hi, hz0, hz1, hz2⟩ : Tryz.prog.info? 124 = some i0 ∧ i0.zero = some (.agg #[.int .i64 0, .int .i64 0, .int .i64 0]) ∧ i0.size = 3 ∧ i0.bytes = 24)
  clear hi hz0 hz1 hz2 hx
  go_enter Tryz.func86, Tryz.ntmps86
  go_upto_region 4 with (first
    | (go_at_call 127; (with_reducible refine (anew_at _ n (Lib.hid rfl) h1 h2 _).mono ?_); rintro e w1 ⟨p, B, rfl, hA, hb⟩; have HA := Lib.hid hA; have HB := Lib.hid hb; clear hA hb))
  obtain ⟨wD, hwD⟩ : ∃ wD, wD = w1.drew := ⟨_, rfl⟩
  have HD : Hid (B0 w.heap.size w1 wD n none []) := Lib.hid (by rw [hwD]; exact ⟨(Below.refl _ _).drew, fun _ e => (by cases e), fun _ e => (by cases e), by simp⟩)
  refine wp_region_noPanic ?_
  refine wp_region_held_drew (S := fun w' => True) (by kernel_rfl) trivial (fun hHeld => ?_)
  rw [← hwD]
  clear hwD
  refine wpAnyH_take (i := 0) (v := ?_) (by rfl) (by kernel_rfl) (by kernel_rfl) (by kernel_rfl) (fun _ _ _ h => h) (Or.inl ⟨by kernel_rfl, ?_⟩) (by assumption) ?_; rotate_left 1; (focus (intro w hSw; (try dsimp only at hSw); simp only [List.getElem_toArray, List.getElem_cons_succ, List.getElem_cons_zero]; all_goals go_simp; all_goals (try with_reducible rfl))); (try simp only [Act.put, List.getElem_toArray, List.getElem_cons_succ, List.getElem_cons_zero, List.setIfInBounds_toArray, List.set_cons_zero, List.set_cons_succ])
  refine wpAnyH_take (i := 1) (v := ?_) (by rfl) (by kernel_rfl) (by kernel_rfl) (by kernel_rfl) (fun _ _ _ h => h) (Or.inl ⟨by kernel_rfl, ?_⟩) (by assumption) ?_; rotate_left 1; (focus (intro w hSw; (try dsimp only at hSw); simp only [List.getElem_toArray, List.getElem_cons_succ, List.getElem_cons_zero]; all_goals go_simp; all_goals (try with_reducible rfl))); (try simp only [Act.put, List.getElem_toArray, List.getElem_cons_succ, List.getElem_cons_zero, List.setIfInBounds_toArray, List.set_cons_zero, List.set_cons_succ])
  refine wpAnyH_take (i := 2) (v := ?_) (by rfl) (by kernel_rfl) (by kernel_rfl) (by kernel_rfl) (fun _ _ _ h => h) (Or.inl ⟨by kernel_rfl, ?_⟩) (by assumption) ?_; rotate_left 1; (focus (intro w hSw; (try dsimp only at hSw); simp only [List.getElem_toArray, List.getElem_cons_succ, List.getElem_cons_zero]; all_goals go_simp; all_goals (try with_reducible rfl))); (try simp only [Act.put, List.getElem_toArray, List.getElem_cons_succ, List.getElem_cons_zero, List.setIfInBounds_toArray, List.set_cons_zero, List.set_cons_succ])
  refine wpAnyH_take (i := 3) (v := ?_) (by rfl) (by kernel_rfl) (by kernel_rfl) (by kernel_rfl) (fun _ _ _ h => h) (Or.inl ⟨by kernel_rfl, ?_⟩) (by assumption) ?_; rotate_left 1; (focus (intro w hSw; (try dsimp only at hSw); simp only [List.getElem_toArray, List.getElem_cons_succ, List.getElem_cons_zero]; all_goals go_simp; all_goals (try with_reducible rfl))); (try simp only [Act.put, List.getElem_toArray, List.getElem_cons_succ, List.getElem_cons_zero, List.setIfInBounds_toArray, List.set_cons_zero, List.set_cons_succ])
  refine wpAnyH_ready (rs := [4, 5]) (by kernel_rfl) (by simp) ?_
  refine AllReadyH.cons (by rfl) (fun K' hK => ?_) (AllReadyH.cons (by rfl) (fun K' hK => ?_) AllReadyH.nil)
  · rw [if_pos (by kernel_rfl)]; simp only [List.getElem_toArray, List.getElem_cons_succ, List.getElem_cons_zero]
    obtain ⟨wA, hrun, hown, hgrow⟩ := run_make_full (P := Tryz.prog) wD w.heap.size 88 124 i0 (.agg #[.int .i64 0, .int .i64 0, .int .i64 0]) 3 Tryz.underlying88 HI.out.1 HI.out.2.1 HI.out.2.2.1 .i64 .i64 n (by rw [HI.out.2.2.2]; omega) (by unfold maxLen; omega) (Nat.le_trans HB.out.size HD.out.bel.size); obtain ⟨A, hA⟩ : ∃ A, wD.heap.size = A := ⟨_, rfl⟩; rw [hA] at hown hrun; have HwA := Lib.hid (HD.out.mk_ A hA hown hgrow); clear hown hgrow hA; go_wp2_with fail; clear hrun
    refine hK.out _ _ trivial (fun hHeld => ?_); clear hK; (try simp only [Act.put, List.getElem_toArray, List.getElem_cons_succ, List.getElem_cons_zero, List.setIfInBounds_toArray, List.set_cons_zero, List.set_cons_succ])
    refine wpAnyH_ready (rs := [5]) (by kernel_rfl) (by simp) ?_; refine AllReadyH.cons (by rfl) (fun K hK => ?_) AllReadyH.nil; rw [if_pos (by kernel_rfl)]; simp only [List.getElem_toArray, List.getElem_cons_succ, List.getElem_cons_zero]
    go_wp2_with (first | (go_at_call 128; (with_reducible refine (unowned_is _).mono ?_); rintro e wX ⟨G, rfl, hr, hb⟩; have HwX := Lib.hid (HwA.out.own HB.out.size G hr hb); clear hr hb))
    refine hK.out _ _ trivial (fun hHeld => ?_); clear hK; (try simp only [Act.put, List.getElem_toArray, List.getElem_cons_succ, List.getElem_cons_zero, List.setIfInBounds_toArray, List.set_cons_zero, List.set_cons_succ])
    refine wpAnyH_ready (rs := [6]) (by kernel_rfl) (by simp) ?_; refine AllReadyH.cons (by rfl) (fun K hK => ?_) AllReadyH.nil; rw [if_pos (by kernel_rfl)]; simp only [List.getElem_toArray, List.getElem_cons_succ, List.getElem_cons_zero]
    go_wp2_with (first | (go_at_call 128; (with_reducible refine (unowned_is _).mono ?_); rintro e wY ⟨G, rfl, hr, hb⟩; have HwY := Lib.hid (HwX.out.own HB.out.size G hr hb); clear hr hb))
    refine hK.out _ _ trivial (fun hHeld => ?_); clear hK; (try simp only [Act.put, List.getElem_toArray, List.getElem_cons_succ, List.getElem_cons_zero, List.setIfInBounds_toArray, List.set_cons_zero, List.set_cons_succ])
    refine wpAnyH_ready (rs := [7]) (by kernel_rfl) (by simp) ?_; refine AllReadyH.cons (by rfl) (fun K hK => ?_) AllReadyH.nil; rw [if_pos (by kernel_rfl)]; simp only [List.getElem_toArray, List.getElem_cons_succ, List.getElem_cons_zero]
    go_wp2_with (first | (go_at_call 128; (with_reducible refine (unowned_is _).mono ?_); rintro e wZ ⟨G, rfl, hr, hb⟩; have HwZ := Lib.hid (HwY.out.own HB.out.size G hr hb); clear hr hb))
    refine hK.out _ _ trivial (fun hHeld => ?_); clear hK; (try simp only [Act.put, List.getElem_toArray, List.getElem_cons_succ, List.getElem_cons_zero, List.setIfInBounds_toArray, List.set_cons_zero, List.set_cons_succ])
    refine wpAnyH_take (i := 8) (v := ?_) (by rfl) (by kernel_rfl) (by kernel_rfl) (by kernel_rfl) (fun _ _ _ h => h) (Or.inl ⟨by kernel_rfl, ?_⟩) (by assumption) ?_; rotate_left 1; (focus (intro w hSw; (try dsimp only at hSw); simp only [List.getElem_toArray, List.getElem_cons_succ, List.getElem_cons_zero]; all_goals go_simp; all_goals (try with_reducible rfl))); (try simp only [Act.put, List.getElem_toArray, List.getElem_cons_succ, List.getElem_cons_zero, List.setIfInBounds_toArray, List.set_cons_zero, List.set_cons_succ]); refine wpAnyH_ready (rs := [9]) (by kernel_rfl) (by simp) ?_; refine AllReadyH.cons (by rfl) (fun K hK => ?_) AllReadyH.nil; rw [if_pos (by kernel_rfl)]; simp only [List.getElem_toArray, List.getElem_cons_succ, List.getElem_cons_zero]; go_wp2_with fail; refine hK.out _ _ trivial (fun hHeld => ?_); clear hK; (try simp only [Act.put, List.getElem_toArray, List.getElem_cons_succ, List.getElem_cons_zero, List.setIfInBounds_toArray, List.set_cons_zero, List.set_cons_succ]); (try refine wpAnyH_take (i := 10) (v := ?_) (by rfl) (by kernel_rfl) (by kernel_rfl) (by kernel_rfl) (fun _ _ _ h => h) (Or.inl ⟨by kernel_rfl, ?_⟩) (by assumption) ?_; rotate_left 1; (focus (intro w hSw; (try dsimp only at hSw); simp only [List.getElem_toArray, List.getElem_cons_succ, List.getElem_cons_zero]; all_goals go_simp; all_goals (try with_reducible rfl))); (try simp only [Act.put, List.getElem_toArray, List.getElem_cons_succ, List.getElem_cons_zero, List.setIfInBounds_toArray, List.set_cons_zero, List.set_cons_succ])); (try refine wpAnyH_take (i := 11) (v := ?_) (by rfl) (by kernel_rfl) (by kernel_rfl) (by kernel_rfl) (fun _ _ _ h => h) (Or.inl ⟨by kernel_rfl, ?_⟩) (by assumption) ?_; rotate_left 1; (focus (intro w hSw; (try dsimp only at hSw); simp only [List.getElem_toArray, List.getElem_cons_succ, List.getElem_cons_zero]; all_goals go_simp; all_goals (try with_reducible rfl))); (try simp only [Act.put, List.getElem_toArray, List.getElem_cons_succ, List.getElem_cons_zero, List.setIfInBounds_toArray, List.set_cons_zero, List.set_cons_succ])); refine wpAnyH_done (by kernel_rfl) ?_ _; refine NoPanic.normal ?_; go_wp2_with fail; go_ret2; have hD := B0.done (mb := mb) (db := db) HA.out HB.out HwZ.out 91 rfl; exact ⟨_, _, _, _, _, _, _, rfl, hD.1, hD.2⟩
  · rw [if_pos (by kernel_rfl)]; simp only [List.getElem_toArray, List.getElem_cons_succ, List.getElem_cons_zero]
    go_wp2_with (first | (go_at_call 128; (with_reducible refine (unowned_is _).mono ?_); rintro e wX ⟨G, rfl, hr, hb⟩; have HwX := Lib.hid (HD.out.own HB.out.size G hr hb); clear hr hb))
    refine hK.out _ _ trivial (fun hHeld => ?_); clear hK; (try simp only [Act.put, List.getElem_toArray, List.getElem_cons_succ, List.getElem_cons_zero, List.setIfInBounds_toArray, List.set_cons_zero, List.set_cons_succ])
    refine wpAnyH_ready (rs := [4, 6]) (by kernel_rfl) (by simp) ?_
    refine AllReadyH.cons (by rfl) (fun K'' hK => ?_) (AllReadyH.cons (by rfl) (fun K'' hK => ?_) AllReadyH.nil)
    · rw [if_pos (by kernel_rfl)]; simp only [List.getElem_toArray, List.getElem_cons_succ, List.getElem_cons_zero]
      obtain ⟨wA, hrun, hown, hgrow⟩ := run_make_full (P := Tryz.prog) wX w.heap.size 88 124 i0 (.agg #[.int .i64 0, .int .i64 0, .int .i64 0]) 3 Tryz.underlying88 HI.out.1 HI.out.2.1 HI.out.2.2.1 .i64 .i64 n (by rw [HI.out.2.2.2]; omega) (by unfold maxLen; omega) (Nat.le_trans HB.out.size HwX.out.bel.size); obtain ⟨A, hA⟩ : ∃ A, wX.heap.size = A := ⟨_, rfl⟩; rw [hA] at hown hrun; have HwA := Lib.hid (HwX.out.mk_ A hA hown hgrow); clear hown hgrow hA; go_wp2_with fail; clear hrun
      refine hK.out _ _ trivial (fun hHeld => ?_); clear hK; (try simp only [Act.put, List.getElem_toArray, List.getElem_cons_succ, List.getElem_cons_zero, List.setIfInBounds_toArray, List.set_cons_zero, List.set_cons_succ])
      refine wpAnyH_ready (rs := [6]) (by kernel_rfl) (by simp) ?_; refine AllReadyH.cons (by rfl) (fun K hK => ?_) AllReadyH.nil; rw [if_pos (by kernel_rfl)]; simp only [List.getElem_toArray, List.getElem_cons_succ, List.getElem_cons_zero]
      go_wp2_with (first | (go_at_call 128; (with_reducible refine (unowned_is _).mono ?_); rintro e wY ⟨G, rfl, hr, hb⟩; have HwY := Lib.hid (HwA.out.own HB.out.size G hr hb); clear hr hb))
      refine hK.out _ _ trivial (fun hHeld => ?_); clear hK; (try simp only [Act.put, List.getElem_toArray, List.getElem_cons_succ, List.getElem_cons_zero, List.setIfInBounds_toArray, List.set_cons_zero, List.set_cons_succ])
      refine wpAnyH_ready (rs := [7]) (by kernel_rfl) (by simp) ?_; refine AllReadyH.cons (by rfl) (fun K hK => ?_) AllReadyH.nil; rw [if_pos (by kernel_rfl)]; simp only [List.getElem_toArray, List.getElem_cons_succ, List.getElem_cons_zero]
      go_wp2_with (first | (go_at_call 128; (with_reducible refine (unowned_is _).mono ?_); rintro e wZ ⟨G, rfl, hr, hb⟩; have HwZ := Lib.hid (HwY.out.own HB.out.size G hr hb); clear hr hb))
      refine hK.out _ _ trivial (fun hHeld => ?_); clear hK; (try simp only [Act.put, List.getElem_toArray, List.getElem_cons_succ, List.getElem_cons_zero, List.setIfInBounds_toArray, List.set_cons_zero, List.set_cons_succ])
      refine wpAnyH_take (i := 8) (v := ?_) (by rfl) (by kernel_rfl) (by kernel_rfl) (by kernel_rfl) (fun _ _ _ h => h) (Or.inl ⟨by kernel_rfl, ?_⟩) (by assumption) ?_; rotate_left 1; (focus (intro w hSw; (try dsimp only at hSw); simp only [List.getElem_toArray, List.getElem_cons_succ, List.getElem_cons_zero]; all_goals go_simp; all_goals (try with_reducible rfl))); (try simp only [Act.put, List.getElem_toArray, List.getElem_cons_succ, List.getElem_cons_zero, List.setIfInBounds_toArray, List.set_cons_zero, List.set_cons_succ]); refine wpAnyH_ready (rs := [9]) (by kernel_rfl) (by simp) ?_; refine AllReadyH.cons (by rfl) (fun K hK => ?_) AllReadyH.nil; rw [if_pos (by kernel_rfl)]; simp only [List.getElem_toArray, List.getElem_cons_succ, List.getElem_cons_zero]; go_wp2_with fail; refine hK.out _ _ trivial (fun hHeld => ?_); clear hK; (try simp only [Act.put, List.getElem_toArray, List.getElem_cons_succ, List.getElem_cons_zero, List.setIfInBounds_toArray, List.set_cons_zero, List.set_cons_succ]); (try refine wpAnyH_take (i := 10) (v := ?_) (by rfl) (by kernel_rfl) (by kernel_rfl) (by kernel_rfl) (fun _ _ _ h => h) (Or.inl ⟨by kernel_rfl, ?_⟩) (by assumption) ?_; rotate_left 1; (focus (intro w hSw; (try dsimp only at hSw); simp only [List.getElem_toArray, List.getElem_cons_succ, List.getElem_cons_zero]; all_goals go_simp; all_goals (try with_reducible rfl))); (try simp only [Act.put, List.getElem_toArray, List.getElem_cons_succ, List.getElem_cons_zero, List.setIfInBounds_toArray, List.set_cons_zero, List.set_cons_succ])); (try refine wpAnyH_take (i := 11) (v := ?_) (by rfl) (by kernel_rfl) (by kernel_rfl) (by kernel_rfl) (fun _ _ _ h => h) (Or.inl ⟨by kernel_rfl, ?_⟩) (by assumption) ?_; rotate_left 1; (focus (intro w hSw; (try dsimp only at hSw); simp only [List.getElem_toArray, List.getElem_cons_succ, List.getElem_cons_zero]; all_goals go_simp; all_goals (try with_reducible rfl))); (try simp only [Act.put, List.getElem_toArray, List.getElem_cons_succ, List.getElem_cons_zero, List.setIfInBounds_toArray, List.set_cons_zero, List.set_cons_succ])); refine wpAnyH_done (by kernel_rfl) ?_ _; refine NoPanic.normal ?_; go_wp2_with fail; go_ret2; have hD := B0.done (mb := mb) (db := db) HA.out HB.out HwZ.out 91 rfl; exact ⟨_, _, _, _, _, _, _, rfl, hD.1, hD.2⟩
    · rw [if_pos (by kernel_rfl)]; simp only [List.getElem_toArray, List.getElem_cons_succ, List.getElem_cons_zero]
      go_wp2_with (first | (go_at_call 128; (with_reducible refine (unowned_is _).mono ?_); rintro e wY ⟨G, rfl, hr, hb⟩; have HwY := Lib.hid (HwX.out.own HB.out.size G hr hb); clear hr hb))
      refine hK.out _ _ trivial (fun hHeld => ?_); clear hK; (try simp only [Act.put, List.getElem_toArray, List.getElem_cons_succ, List.getElem_cons_zero, List.setIfInBounds_toArray, List.set_cons_zero, List.set_cons_succ])
      refine wpAnyH_ready (rs := [4, 7]) (by kernel_rfl) (by simp) ?_
      refine AllReadyH.cons (by rfl) (fun K3 hK => ?_) (AllReadyH.cons (by rfl) (fun K3 hK => ?_) AllReadyH.nil)
      · rw [if_pos (by kernel_rfl)]; simp only [List.getElem_toArray, List.getElem_cons_succ, List.getElem_cons_zero]
        obtain ⟨wA, hrun, hown, hgrow⟩ := run_make_full (P := Tryz.prog) wY w.heap.size 88 124 i0 (.agg #[.int .i64 0, .int .i64 0, .int .i64 0]) 3 Tryz.underlying88 HI.out.1 HI.out.2.1 HI.out.2.2.1 .i64 .i64 n (by rw [HI.out.2.2.2]; omega) (by unfold maxLen; omega) (Nat.le_trans HB.out.size HwY.out.bel.size); obtain ⟨A, hA⟩ : ∃ A, wY.heap.size = A := ⟨_, rfl⟩; rw [hA] at hown hrun; have HwA := Lib.hid (HwY.out.mk_ A hA hown hgrow); clear hown hgrow hA; go_wp2_with fail; clear hrun
        refine hK.out _ _ trivial (fun hHeld => ?_); clear hK; (try simp only [Act.put, List.getElem_toArray, List.getElem_cons_succ, List.getElem_cons_zero, List.setIfInBounds_toArray, List.set_cons_zero, List.set_cons_succ])
        refine wpAnyH_ready (rs := [7]) (by kernel_rfl) (by simp) ?_; refine AllReadyH.cons (by rfl) (fun K hK => ?_) AllReadyH.nil; rw [if_pos (by kernel_rfl)]; simp only [List.getElem_toArray, List.getElem_cons_succ, List.getElem_cons_zero]
        go_wp2_with (first | (go_at_call 128; (with_reducible refine (unowned_is _).mono ?_); rintro e wZ ⟨G, rfl, hr, hb⟩; have HwZ := Lib.hid (HwA.out.own HB.out.size G hr hb); clear hr hb))
        refine hK.out _ _ trivial (fun hHeld => ?_); clear hK; (try simp only [Act.put, List.getElem_toArray, List.getElem_cons_succ, List.getElem_cons_zero, List.setIfInBounds_toArray, List.set_cons_zero, List.set_cons_succ])
        refine wpAnyH_take (i := 8) (v := ?_) (by rfl) (by kernel_rfl) (by kernel_rfl) (by kernel_rfl) (fun _ _ _ h => h) (Or.inl ⟨by kernel_rfl, ?_⟩) (by assumption) ?_; rotate_left 1; (focus (intro w hSw; (try dsimp only at hSw); simp only [List.getElem_toArray, List.getElem_cons_succ, List.getElem_cons_zero]; all_goals go_simp; all_goals (try with_reducible rfl))); (try simp only [Act.put, List.getElem_toArray, List.getElem_cons_succ, List.getElem_cons_zero, List.setIfInBounds_toArray, List.set_cons_zero, List.set_cons_succ]); refine wpAnyH_ready (rs := [9]) (by kernel_rfl) (by simp) ?_; refine AllReadyH.cons (by rfl) (fun K hK => ?_) AllReadyH.nil; rw [if_pos (by kernel_rfl)]; simp only [List.getElem_toArray, List.getElem_cons_succ, List.getElem_cons_zero]; go_wp2_with fail; refine hK.out _ _ trivial (fun hHeld => ?_); clear hK; (try simp only [Act.put, List.getElem_toArray, List.getElem_cons_succ, List.getElem_cons_zero, List.setIfInBounds_toArray, List.set_cons_zero, List.set_cons_succ]); (try refine wpAnyH_take (i := 10) (v := ?_) (by rfl) (by kernel_rfl) (by kernel_rfl) (by kernel_rfl) (fun _ _ _ h => h) (Or.inl ⟨by kernel_rfl, ?_⟩) (by assumption) ?_; rotate_left 1; (focus (intro w hSw; (try dsimp only at hSw); simp only [List.getElem_toArray, List.getElem_cons_succ, List.getElem_cons_zero]; all_goals go_simp; all_goals (try with_reducible rfl))); (try simp only [Act.put, List.getElem_toArray, List.getElem_cons_succ, List.getElem_cons_zero, List.setIfInBounds_toArray, List.set_cons_zero, List.set_cons_succ])); (try refine wpAnyH_take (i := 11) (v := ?_) (by rfl) (by kernel_rfl) (by kernel_rfl) (by kernel_rfl) (fun _ _ _ h => h) (Or.inl ⟨by kernel_rfl, ?_⟩) (by assumption) ?_; rotate_left 1; (focus (intro w hSw; (try dsimp only at hSw); simp only [List.getElem_toArray, List.getElem_cons_succ, List.getElem_cons_zero]; all_goals go_simp; all_goals (try with_reducible rfl))); (try simp only [Act.put, List.getElem_toArray, List.getElem_cons_succ, List.getElem_cons_zero, List.setIfInBounds_toArray, List.set_cons_zero, List.set_cons_succ])); refine wpAnyH_done (by kernel_rfl) ?_ _; refine NoPanic.normal ?_; go_wp2_with fail; go_ret2; have hD := B0.done (mb := mb) (db := db) HA.out HB.out HwZ.out 91 rfl; exact ⟨_, _, _, _, _, _, _, rfl, hD.1, hD.2⟩
      · rw [if_pos (by kernel_rfl)]; simp only [List.getElem_toArray, List.getElem_cons_succ, List.getElem_cons_zero]
        go_wp2_with (first | (go_at_call 128; (with_reducible refine (unowned_is _).mono ?_); rintro e wZ ⟨G, rfl, hr, hb⟩; have HwZ := Lib.hid (HwY.out.own HB.out.size G hr hb); clear hr hb))
        refine hK.out _ _ trivial (fun hHeld => ?_); clear hK; (try simp only [Act.put, List.getElem_toArray, List.getElem_cons_succ, List.getElem_cons_zero, List.setIfInBounds_toArray, List.set_cons_zero, List.set_cons_succ])
        refine wpAnyH_ready (rs := [4]) (by kernel_rfl) (by simp) ?_; refine AllReadyH.cons (by rfl) (fun K hK => ?_) AllReadyH.nil; rw [if_pos (by kernel_rfl)]; simp only [List.getElem_toArray, List.getElem_cons_succ, List.getElem_cons_zero]
        obtain ⟨wA, hrun, hown, hgrow⟩ := run_make_full (P := Tryz.prog) wZ w.heap.size 88 124 i0 (.agg #[.int .i64 0, .int .i64 0, .int .i64 0]) 3 Tryz.underlying88 HI.out.1 HI.out.2.1 HI.out.2.2.1 .i64 .i64 n (by rw [HI.out.2.2.2]; omega) (by unfold maxLen; omega) (Nat.le_trans HB.out.size HwZ.out.bel.size); obtain ⟨A, hA⟩ : ∃ A, wZ.heap.size = A := ⟨_, rfl⟩; rw [hA] at hown hrun; have HwA := Lib.hid (HwZ.out.mk_ A hA hown hgrow); clear hown hgrow hA; go_wp2_with fail; clear hrun
        refine hK.out _ _ trivial (fun hHeld => ?_); clear hK; (try simp only [Act.put, List.getElem_toArray, List.getElem_cons_succ, List.getElem_cons_zero, List.setIfInBounds_toArray, List.set_cons_zero, List.set_cons_succ])
        refine wpAnyH_take (i := 8) (v := ?_) (by rfl) (by kernel_rfl) (by kernel_rfl) (by kernel_rfl) (fun _ _ _ h => h) (Or.inl ⟨by kernel_rfl, ?_⟩) (by assumption) ?_; rotate_left 1; (focus (intro w hSw; (try dsimp only at hSw); simp only [List.getElem_toArray, List.getElem_cons_succ, List.getElem_cons_zero]; all_goals go_simp; all_goals (try with_reducible rfl))); (try simp only [Act.put, List.getElem_toArray, List.getElem_cons_succ, List.getElem_cons_zero, List.setIfInBounds_toArray, List.set_cons_zero, List.set_cons_succ]); refine wpAnyH_ready (rs := [9]) (by kernel_rfl) (by simp) ?_; refine AllReadyH.cons (by rfl) (fun K hK => ?_) AllReadyH.nil; rw [if_pos (by kernel_rfl)]; simp only [List.getElem_toArray, List.getElem_cons_succ, List.getElem_cons_zero]; go_wp2_with fail; refine hK.out _ _ trivial (fun hHeld => ?_); clear hK; (try simp only [Act.put, List.getElem_toArray, List.getElem_cons_succ, List.getElem_cons_zero, List.setIfInBounds_toArray, List.set_cons_zero, List.set_cons_succ]); (try refine wpAnyH_take (i := 10) (v := ?_) (by rfl) (by kernel_rfl) (by kernel_rfl) (by kernel_rfl) (fun _ _ _ h => h) (Or.inl ⟨by kernel_rfl, ?_⟩) (by assumption) ?_; rotate_left 1; (focus (intro w hSw; (try dsimp only at hSw); simp only [List.getElem_toArray, List.getElem_cons_succ, List.getElem_cons_zero]; all_goals go_simp; all_goals (try with_reducible rfl))); (try simp only [Act.put, List.getElem_toArray, List.getElem_cons_succ, List.getElem_cons_zero, List.setIfInBounds_toArray, List.set_cons_zero, List.set_cons_succ])); (try refine wpAnyH_take (i := 11) (v := ?_) (by rfl) (by kernel_rfl) (by kernel_rfl) (by kernel_rfl) (fun _ _ _ h => h) (Or.inl ⟨by kernel_rfl, ?_⟩) (by assumption) ?_; rotate_left 1; (focus (intro w hSw; (try dsimp only at hSw); simp only [List.getElem_toArray, List.getElem_cons_succ, List.getElem_cons_zero]; all_goals go_simp; all_goals (try with_reducible rfl))); (try simp only [Act.put, List.getElem_toArray, List.getElem_cons_succ, List.getElem_cons_zero, List.setIfInBounds_toArray, List.set_cons_zero, List.set_cons_succ])); refine wpAnyH_done (by kernel_rfl) ?_ _; refine NoPanic.normal ?_; go_wp2_with fail; go_ret2; have hD := B0.done (mb := mb) (db := db) HA.out HB.out HwA.out 91 rfl; exact ⟨_, _, _, _, _, _, _, rfl, hD.1, hD.2⟩
end Go.Proofs.YtncopdhhchmpeaaGreatDoor
namespace Go.Proofs.YtncopdhhchmpeaaGreatDoor
open Go.ChangeShapes Go.WideShapes Go.ChangeAt Go.RowKit
set_option linter.unusedVariables false
set_option linter.unusedSimpArgs false
/-- The first k are there. -/
def thN (k : Nat) : Nat → Bool := fun i => decide (i < k)
theorem thN_put (k : Nat) : upd (thN k) k true = thN (k + 1) := by
  funext i
  unfold upd thN
  by_cases e : i = k
  · subst e; simp
  · by_cases h : i < k
    · simp [e, h]; omega
    · simp [e, h]; omega
theorem thN_at {k i : Nat} (h : i < k) : thN k i = true := by simp [thN, h]
theorem thN_free (k : Nat) : freeB (thN k) (fun _ => 0) k = true := by simp [freeB, thN]
theorem thN_not (k : Nat) : ∀ i, i < k → freeB (thN k) (fun _ => 0) i = false := fun i hi => by simp [freeB, thN, hi]
theorem prok_put {nb : Nat} {pr : Nat → Int} (hp : PrOk nb pr) (y : Int) (h0 : -1 ≤ y) (h1 : y < nb) : PrOk (nb + 1) (upd pr nb y) := fun i hi => by
  by_cases e : i = nb
  · subst e; rw [upd_at]; omega
  · rw [upd_other _ _ _ _ e]; exact hp i (by omega)
theorem own_slice {w : World} {B : Nat} {v : Value} {L : List Int} (h : w.ownsRow B 3 1 v L.length (L.map (Value.int .i64))) (k : Nat) (hk : Hid (L.length = k)) : ∃ a c, v = .slice a k c := by
  obtain ⟨a, c, hv, _⟩ := own_ints h
  exact ⟨a, c, by rw [hv, hk.out]⟩
set_option maxRecDepth 100000 in
set_option maxHeartbeats 1000000 in
theorem bopen_ok {base P p B A G1 G2 G3 n c mb db nb : Nat} {pr us lm o1 v1 o2 v2 o3 v3 : Nat → Int} (y lim : Int) (hy0 : -1 ≤ y) (hy1 : y < nb) (hl0 : 0 ≤ lim) (hl1 : lim ≤ 512) (hnb : nb < n) (hpr : Hid (PrOk nb pr)) (hch : Hid ((chL pr y).length < 8)) (w : World) (h : BkAt w base P p B A G1 G2 G3 n c mb db (thN nb) (fun _ => 0) pr us lm o1 v1 o2 v2 o3 v3) :
    Calls Tryz.prog 48 #[.pointer (some ⟨P, 0, none⟩), .int .i64 y, .int .i64 lim] w fun e w' => e = .returned (.tuple #[.int .i64 nb, .int .i64 0, .nilIface]) ∧ BkAt w' base P p B A G1 G2 G3 n c mb db (thN (nb + 1)) (fun _ => 0) (upd pr nb y) (upd us nb 0) (upd lm nb lim) o1 v1 o2 v2 o3 v3 ∧ PBelow w w' B A := by
  have H := Lib.hid h
  have hn := h.ar.le
  have d0 : decide (lim < 0) = false := decide_eq_false (by omega)
  have d1 : decide (512 < lim) = false := decide_eq_false (by omega)
  obtain ⟨m, hm⟩ : ∃ m, Hid ((chL pr y).length = m) := ⟨_, Lib.hid rfl⟩
  have hm8 : m < 8 := by have := hch.out; rw [hm.out] at this; exact this
  have d2 : decide ((8 : Int) ≤ (m : Int)) = false := decide_eq_false (by omega)
  have k0 : (0 : Int) ≤ nb := by omega
  have k1 : (nb : Int) < n := by omega
  clear h
  go_enter Tryz.func48, Tryz.ntmps48
  go_wp2_with (first
    | (go_at_call 77; (with_reducible refine (bchain_is y nb hy0 hy1 (by omega) (Lib.hid (fun i hi => thN_at hi)) hpr _ H.out).mono ?_); rintro e w1 ⟨v, rfl, hr, hb⟩; obtain ⟨a9, c9, hv9⟩ := own_slice hr m hm; subst hv9; have H1 := Lib.hid (H.out.below hb); have HB1 := Lib.hid hb; have f0 := H1.out.f0; clear hr hb)
    | (go_at_call 65; (with_reducible refine (atake_ok _ H1.out.ar nb hnb (Lib.hid (thN_free nb)) (Lib.hid (thN_not nb)) 0 (Lib.hid rfl)).mono ?_); rintro e w2 ⟨rfl, hA, hg⟩; have H2 := Lib.hid (H1.out.turn hA hg); have HB2 := Lib.hid ((PBelow.of_below (B := B) (G := A) HB1.out).trans (PBelow.of hg (.inl rfl))); have f3 := H2.out.f3; have HP := Lib.hid (H2.out.setP nb hnb y); have HU := Lib.hid (HP.out.1.setU nb hnb 0); have HL := Lib.hid (HU.out.1.setL nb hnb lim); have c0 := H2.out.ac0 nb hnb; have c1 := H2.out.ac1 nb hnb; have c2 := H2.out.ac2 nb hnb; have z0 := H2.out.ac.fr (nb * 3); have z1 := H2.out.ac.fr (nb * 3 + 1); have z2 := H2.out.ac.fr (nb * 3 + 2); clear hA hg f0))
  go_ret3
  refine ⟨rfl, ?_, ((HB2.out.trans (PBelow.of HP.out.2 (.inr rfl))).trans (PBelow.of HU.out.2 (.inr rfl))).trans (PBelow.of HL.out.2 (.inr rfl))⟩
  have := HL.out.1
  rw [thN_put] at this
  exact this
/-- What open answers, told on by Root and by Sub. -/
theorem broot_of {P : Nat} {lim : Int} {w : World} {Q : Ending → World → Prop} (r : Value) (a0 a1 a2 : Value) (hr : r = .tuple #[a0, a1, a2]) (h : Calls Tryz.prog 48 #[.pointer (some ⟨P, 0, none⟩), .int .i64 (-1), .int .i64 lim] w fun e w' => e = .returned r ∧ Q e w') :
    Calls Tryz.prog 12 #[.pointer (some ⟨P, 0, none⟩), .int .i64 lim] w fun e w' => e = .returned r ∧ Q e w' := by
  subst hr
  have HC := Lib.hid h
  clear h
  go_enter Tryz.func12, Tryz.ntmps12
  go_wp2_with (first
    | (go_at_call 48; (with_reducible refine HC.out.mono ?_); rintro e w1 ⟨rfl, hq⟩; have HQ := Lib.hid hq; clear hq))
  go_ret3
  exact ⟨rfl, HQ.out⟩
end Go.Proofs.YtncopdhhchmpeaaGreatDoor
namespace Go.Proofs.YtncopdhhchmpeaaGreatDoor
open Go.ChangeShapes Go.WideShapes Go.ChangeAt Go.RowKit
set_option linter.unusedVariables false
set_option linter.unusedSimpArgs false
/-- Where all of it lies. -/
structure BLoc where
  mb : Nat
  S : Nat
  a : Shp
  b : Shp
  N : Nat
  cb : Nat
  dB : Nat
  dP : Nat
  dp : Nat
  dR : Nat
  dG : Nat
  dQ : Nat
  dn : Nat
  dc : Nat
  bB : Nat
  P : Nat
  p : Nat
  B : Nat
  A : Nat
  G1 : Nat
  G2 : Nat
  G3 : Nat
  n : Nat
  c : Nat
  T : Nat
  z : Int
/-- What it is. -/
structure BSt where
  nt : Nat → Bool
  nv : Nat → Int
  nW : Nat → Nat → Value
  pt : Nat → Bool
  pv : Nat → Int
  pW : Nat → Nat → Int
  dt : Nat → Bool
  dv : Nat → Int
  dW : Nat → Nat → Value
  nb : Nat
  pr : Nat → Int
  us : Nat → Int
  lm : Nat → Int
  o1 : Nat → Int
  v1 : Nat → Int
  o2 : Nat → Int
  v2 : Nat → Int
  o3 : Nat → Int
  v3 : Nat → Int
def BKD (w : World) (L : BLoc) (D : BSt) : Prop := BkAt w L.bB L.P L.p L.B L.A L.G1 L.G2 L.G3 L.n L.c L.mb L.dP (thN D.nb) (fun _ => 0) D.pr D.us D.lm D.o1 D.v1 D.o2 D.v2 D.o3 D.v3
def DMD (w : World) (L : BLoc) (D : BSt) : Prop := DsAt w L.dB L.dP L.dp L.dR L.dG L.dQ L.dn L.dc D.dt D.dv D.dW
def MMD (w0 w : World) (L : BLoc) (D : BSt) : Prop := MemAt w0 w L.mb L.S L.a L.b L.N L.cb L.z D.nt D.nv D.nW D.pt D.pv D.pW 0 (.slice none 0 0) []
/-- Banks over domains over a memory over a law's start. -/
structure BW (w0 w : World) (L : BLoc) (D : BSt) : Prop where
  m : MMD w0 w L D
  d : DMD w L D
  k : BKD w L D
  md : L.mb < L.dB ∧ L.cb < L.dB ∧ L.N ≤ L.dB
  db : L.dP < L.bB ∧ L.dp < L.bB ∧ L.dR < L.bB ∧ L.dG < L.bB ∧ L.dQ < L.bB
  dl : L.dB ≤ L.bB
  pk : PrOk D.nb D.pr
  nn : D.nb ≤ L.n
  tt : L.bB ≤ L.T ∧ L.P < L.T ∧ L.p < L.T ∧ L.B < L.T ∧ L.A < L.T ∧ L.G1 < L.T ∧ L.G2 < L.T ∧ L.G3 < L.T
  tw : L.T ≤ w.heap.size
/-- What lies behind all of it stays. -/
def UpT (T : Nat) (w w' : World) : Prop := w.heap.size ≤ w'.heap.size ∧ ∀ k, T ≤ k → k < w.heap.size → w'.heap[k]? = w.heap[k]?
theorem UpT.refl (T : Nat) (w : World) : UpT T w w := ⟨Nat.le_refl _, fun _ _ _ => rfl⟩
theorem UpT.trans {T : Nat} {w w1 w2 : World} (h : UpT T w w1) (h2 : UpT T w1 w2) : UpT T w w2 := ⟨Nat.le_trans h.1 h2.1, fun k h3 h4 => (h2.2 k h3 (Nat.lt_of_lt_of_le h4 h.1)).trans (h.2 k h3 h4)⟩
theorem UpT.below {T : Nat} {w w1 : World} (h : Below w.heap.size w w1) : UpT T w w1 := ⟨h.size, fun k _ hk => h.block k hk⟩
theorem UpT.grown {T g : Nat} {w w1 : World} (h : w.grownBy w1 (some g)) (hg : g < T) : UpT T w w1 := ⟨h.size, fun k hk hk2 => h.block k hk2 (fun e => by injection e with e; omega)⟩
theorem UpT.pb {T B G : Nat} {w w1 : World} (h : PBelow w w1 B G) (h1 : B < T) (h2 : G < T) : UpT T w w1 := ⟨h.2.2.2.1, fun k hk hk2 => h.2.2.2.2 k hk2 (by omega) (by omega)⟩
section
variable {w0 w w' : World} {L : BLoc} {D D' : BSt}
theorem BW.bel (h : BW w0 w L D) : Below w0.heap.size w0 w := h.m.sv.bel
theorem BW.mn (h : BW w0 w L D) : w0.heap.size ≤ L.N := h.m.n0
theorem BW.bl (h : BW w0 w L D) : L.bB ≤ w.heap.size := Nat.le_of_lt (Nat.lt_of_le_of_lt h.k.pb h.k.pl)
theorem BW.below (h : BW w0 w L D) (hb : Below w.heap.size w w') : BW w0 w' L D := ⟨MemAt.below h.m hb, DsAt.below h.d hb, BkAt.below h.k hb, h.md, h.db, h.dl, h.pk, h.nn, h.tt, Nat.le_trans h.tw hb.size⟩
/-- What lies behind a memory was changed. -/
theorem MMD.low (h : MMD w0 w L D) {M : Nat} (hb : Below M w w') (h1 : L.mb < M) (h2 : L.cb < M) (h3 : L.N ≤ M) : MMD w0 w' L D := by
  have e := hb.block L.mb h1
  exact ⟨⟨h.sv.bel.trans (hb.mono (Nat.le_trans h.n0 h3)), h.sv.wb, h.sv.st.under h.lo hb.size (fun k hk => hb.block k (by omega))⟩, h.lo, h.n0, Nat.le_trans h.nN hb.size, (World.cell?_of_block (a := ⟨L.mb, 0, none⟩) e).trans h.m0, (World.cell?_of_block (a := ⟨L.mb, 1, none⟩) e).trans h.m1, Nat.lt_of_lt_of_le h.ml hb.size, h.mn, h.mo, ⟨h.ca.nb, Nat.lt_of_lt_of_le h.ca.cl hb.size, (World.cell?_of_block (a := ⟨L.cb, 0, none⟩) (hb.block L.cb h2)).trans h.ca.c0, (World.cell?_of_block (a := ⟨L.cb, 1, none⟩) (hb.block L.cb h2)).trans h.ca.c1, (World.cell?_of_block (a := ⟨L.cb, 2, none⟩) (hb.block L.cb h2)).trans h.ca.c2, fun j => (World.frozen?_of_block (a := ⟨L.cb, j, none⟩) (hb.block L.cb h2)).trans (h.ca.fr j), World.ownsRow_nil _ _ _ _, h.ca.ne, fun e he => by cases he⟩, h.ok⟩
theorem RowO.same {base e s n : Nat} {T : TypeId} {G : Nat} {xs : List Value} (h : w.ownsRow base T s (.slice (some ⟨G, 0, none⟩) n n) n xs) (hb : w'.heap[G]? = w.heap[G]?) : w'.ownsRow base T s (.slice (some ⟨G, 0, none⟩) n n) n xs := by
  refine ⟨h.1, ?_⟩
  rcases h.2 with hn | ⟨g', cap, cur, e', hB, hg, rest⟩
  · exact .inl hn
  · refine .inr ⟨g', cap, cur, e', hB, ?_, rest⟩
    simp at e'
    rw [← e'.1, hb, e'.1]; exact hg
theorem DMD.low (h : DMD w L D) {M : Nat} (hb : Below M w w') (h1 : L.dP < M ∧ L.dp < M ∧ L.dR < M ∧ L.dG < M ∧ L.dQ < M) : DMD w' L D := by
  have hP := hb.block L.dP h1.1
  exact ⟨⟨Nat.lt_of_lt_of_le h.pl.pl hb.size, h.pl.pb, (World.cell?_of_block (a := ⟨L.dP, 0, none⟩) hP).trans h.pl.f0, (World.cell?_of_block (a := ⟨L.dP, 1, none⟩) hP).trans h.pl.f1, h.pl.ar.same2 hb.size (hb.block _ h1.2.1) (hb.block _ h1.2.2.1), RowO.same (e := 0) h.pl.row (hb.block _ h1.2.2.2.1), h.pl.n1, h.pl.n2, h.pl.n3, h.pl.n4⟩, (World.cell?_of_block (a := ⟨L.dP, 2, none⟩) hP).trans h.f2, RowO.same (e := 0) h.qs (hb.block _ h1.2.2.2.2), h.q1, h.q2, h.q3⟩
/-- The banks were changed, and nothing else that was there. -/
theorem BW.bank (h : BW w0 w L D) (hk : BKD w' L D') (hb : Below L.bB w w') (h1 : D' = { D with nb := D'.nb, pr := D'.pr, us := D'.us, lm := D'.lm, o1 := D'.o1, v1 := D'.v1, o2 := D'.o2, v2 := D'.v2, o3 := D'.o3, v3 := D'.v3 }) (hp : PrOk D'.nb D'.pr) (hn : D'.nb ≤ L.n) : BW w0 w' L D' := by
  have hm := MMD.low h.m hb (by have := h.md; have := h.dl; omega) (by have := h.md; have := h.dl; omega) (by have := h.md; have := h.dl; omega)
  have hd := DMD.low h.d hb h.db
  refine ⟨?_, ?_, hk, h.md, h.db, h.dl, hp, hn, h.tt, Nat.le_trans h.tw hb.size⟩
  · rw [h1]; exact hm
  · rw [h1]; exact hd
/-- The pages were changed. -/
theorem BW.page (h : BW w0 w L D) {pt' : Nat → Bool} {pv' : Nat → Int} {pW' : Nat → Nat → Int} (hP : PgAt w' L.b.b L.b.P L.b.p L.b.B L.b.G L.b.n L.b.c pt' pv' pW') (hb : PBelow w w' L.b.B L.b.G) : BW w0 w' L { D with pt := pt', pv := pv', pW := pW' } := by
  have hl := h.m.lo.p
  have hmd := h.md
  have hdl := h.dl
  refine ⟨MemAt.page h.m hP hb ways_nil, DsAt.same h.d hb.2.2.2.1 (fun k hk1 hk2 => hb.2.2.2.2 k hk2 (by omega) (by omega)), BkAt.same h.k hb.2.2.2.1 (fun k hk1 hk2 => hb.2.2.2.2 k hk2 (by omega) (by omega)), h.md, h.db, h.dl, h.pk, h.nn, h.tt, Nat.le_trans h.tw hb.2.2.2.1⟩
theorem BW.node (h : BW w0 w L D) {nt' : Nat → Bool} {nv' : Nat → Int} {nW' : Nat → Nat → Value} (hN : NdAt w' L.a.b L.a.P L.a.p L.a.B L.a.G L.a.n L.a.c nt' nv' nW') (hb : PBelow w w' L.a.B L.a.G) : BW w0 w' L { D with nt := nt', nv := nv', nW := nW' } := by
  have hl := h.m.lo.n
  have hmd := h.md
  have hdl := h.dl
  refine ⟨MemAt.node h.m hN hb ways_nil, DsAt.same h.d hb.2.2.2.1 (fun k hk1 hk2 => hb.2.2.2.2 k hk2 (by omega) (by omega)), BkAt.same h.k hb.2.2.2.1 (fun k hk1 hk2 => hb.2.2.2.2 k hk2 (by omega) (by omega)), h.md, h.db, h.dl, h.pk, h.nn, h.tt, Nat.le_trans h.tw hb.2.2.2.1⟩
end
theorem chL_nodup {nb : Nat} {pr : Nat → Int} (hp : PrOk nb pr) (hb : nb ≤ 256) : ∀ (q : Nat) (y : Int), y < q → q ≤ nb → (chL pr y).Nodup := by
  intro q
  induction q with
  | zero => intro y hy _; rw [chL_neg pr y (by omega)]; exact List.nodup_nil
  | succ q ih =>
    intro y hy hq
    by_cases h0 : y < 0
    · rw [chL_neg pr y h0]; exact List.nodup_nil
    · obtain ⟨k, rfl⟩ : ∃ k : Nat, y = k := ⟨y.toNat, by omega⟩
      have h := hp k (by omega)
      rw [chL_cons hp k (by omega) hb, List.nodup_cons]
      exact ⟨fun hm => by have := ((chL_bound hp hb k (pr k) (by omega) (by omega)).2 _ hm).2; omega, ih (pr k) (by omega) (by omega)⟩
/-- So many more for each of a list. -/
def addL (us : Nat → Int) (l : List Int) (x : Int) : Nat → Int := fun i => if l.contains (i : Int) = true then us i + x else us i
theorem addL_nil (us : Nat → Int) (x : Int) : addL us [] x = us := by funext i; simp [addL]
theorem addL_snoc (us : Nat → Int) (l : List Int) (q : Nat) (x : Int) (hq : (q : Int) ∉ l) : upd (addL us l x) q (us q + x) = addL us (l ++ [(q : Int)]) x := by
  funext i
  unfold upd addL
  by_cases e : i = q
  · subst e; simp
  · have e2 : ¬ (i : Int) = (q : Int) := by omega
    simp [e, e2]
theorem take_snoc (L : List Int) (k : Nat) (h : k < L.length) : L.take (k + 1) = L.take k ++ [L.getD k 0] := by
  rw [List.take_succ_eq_append_getElem h]
  simp [List.getD, h]
theorem take_notin (L : List Int) (h : L.Nodup) (k : Nat) (hk : k < L.length) : L.getD k 0 ∉ L.take k := by
  intro hm
  have e : L.getD k 0 = L[k] := by simp [List.getD, hk]
  rw [e] at hm
  rw [List.mem_iff_getElem] at hm
  obtain ⟨i, hi, he⟩ := hm
  simp at hi
  rw [List.getElem_take] at he
  exact List.pairwise_iff_getElem.1 h i k (by omega) hk (by omega) he
set_option maxRecDepth 100000 in
set_option maxHeartbeats 1000000 in
theorem bcount_is {base P p B A G1 G2 G3 n c mb db nb : Nat} {pr us lm o1 v1 o2 v2 o3 v3 : Nat → Int} (l : List Int) (k : Nat) (hk : Hid (l.length = k)) (hk1 : k ≤ 1000) (a : Option Addr) (c2 : Nat) (hl : Hid (∀ z, z ∈ l → 0 ≤ z ∧ z < n)) (hnd : Hid (l.Nodup)) (x : Int) (hx : -1000 ≤ x ∧ x ≤ 1000) (hu : Hid (∀ i, i < n → -1000000 ≤ us i ∧ us i ≤ 1000000)) (w : World) (h : BkAt w base P p B A G1 G2 G3 n c mb db (thN nb) (fun _ => 0) pr us lm o1 v1 o2 v2 o3 v3) (hr : ∀ i, i < k → ∃ g, a = some ⟨g, 0, none⟩ ∧ g < w.heap.size ∧ g ≠ A ∧ w.cell? ⟨g, i, none⟩ = some (.int .i64 (l.getD i 0))) :
    Calls Tryz.prog 76 #[.pointer (some ⟨P, 0, none⟩), .slice a k c2, .int .i64 x] w fun e w' => e = .returned (.tuple #[]) ∧ BkAt w' base P p B A G1 G2 G3 n c mb db (thN nb) (fun _ => 0) pr (addL us l x) lm o1 v1 o2 v2 o3 v3 ∧ w.grownBy w' (some A) := by
  have H := Lib.hid h
  have HR := Lib.hid hr
  have hn := h.ar.le
  clear h hr
  go_enter Tryz.func76, Tryz.ntmps76
  go_wp2_with fail
  go_loopw [10] (fun i wr => ∃ j : Nat, j ≤ k ∧ i = .int .i64 j ∧ BkAt wr base P p B A G1 G2 G3 n c mb db (thN nb) (fun _ => 0) pr (addL us (l.take j) x) lm o1 v1 o2 v2 o3 v3 ∧ w.grownBy wr (some A)) (fun i _ => k - (intOf i).toNat)
  case atStart => exact ⟨0, by omega, rfl, by rw [List.take_zero, addL_nil]; exact H.out, ⟨rfl, rfl, rfl, Nat.le_refl _, fun _ _ _ => rfl⟩⟩
  case round =>
    obtain ⟨j, hj, rfl, hB, hg⟩ := hrel
    have HB := Lib.hid hB
    have HG := Lib.hid hg
    clear hB hg
    by_cases hlt : j < k
    · obtain ⟨g, hag, hgl, hgA, hc⟩ := HR.out j hlt
      have hc2 := (World.cell?_of_block (a := ⟨g, j, none⟩) (HG.out.block g hgl (fun e => hgA (by injection e)))).trans hc
      have hjl : j < l.length := by rw [hk.out]; exact hlt
      have hm : l.getD j 0 ∈ l := by simp [List.getD, hjl]
      have hq := hl.out _ hm
      have hni := take_notin l hnd.out j hjl
      have hts := take_snoc l j hjl
      obtain ⟨q, hq0⟩ : ∃ q : Nat, l.getD j 0 = q := ⟨(l.getD j 0).toNat, by omega⟩
      rw [hq0] at hc2 hq hni hts
      have hqn : q < n := by omega
      have hv : addL us (l.take j) x q = us q := by
        unfold addL
        rw [if_neg (by rw [List.contains_iff_mem]; exact hni)]
      have c1 := HB.out.ac1 q hqn
      rw [hv] at c1
      have hu2 := hu.out q hqn
      have f3 := HB.out.f3
      have z1 := HB.out.ac.fr (q * 3 + 1)
      have HS := HB.out.setU q hqn (us q + x)
      rw [addL_snoc us (l.take j) q x hni, ← hts] at HS
      have HS := Lib.hid HS
      have HGS := Lib.hid (grown_more HG.out ((HB.out.ac.set q 1 hqn (by decide) (.int .i64 (us q + x))).2))
      have hwr : IntKind.i64.wrap (us q + x) = us q + x := by rw [IntKind.wrap_i64]; omega
      generalize us q = uq at c1 hwr HS HGS
      have k0 : (0 : Int) ≤ j := by omega
      have k1 : (0 : Int) ≤ q := by omega
      have k2 : (q : Int) < n := by omega
      subst hag
      clear hc hts hni hm hq hq0 hv hu2
      go_wp2_with fail
      go_roundw
      case rel => exact ⟨j + 1, by omega, by go_num, HS.out.1, HGS.out⟩
      case measure => simp [intOf]; omega
    · obtain rfl : j = k := by omega
      have hdd : decide (j < j) = false := by simp
      have HT : Hid (l.take j = l) := Lib.hid (List.take_of_length_le (by rw [hk.out]; exact Nat.le_refl _))
      go_wp2_with fail
      go_end0
      exact ⟨rfl, by rw [← HT.out]; exact HB.out, HG.out⟩
set_option maxRecDepth 100000 in
theorem bfull_is {base P p B A G1 G2 G3 n c mb db nb : Nat} {pr us lm o1 v1 o2 v2 o3 v3 : Nat → Int} (q : Nat) (hq : q < n) (t : Bool) (ht : Hid (decide (lm q ≤ us q) = t)) (w : World) (h : BkAt w base P p B A G1 G2 G3 n c mb db (thN nb) (fun _ => 0) pr us lm o1 v1 o2 v2 o3 v3) :
    Calls Tryz.prog 90 #[.pointer (some ⟨P, 0, none⟩), .int .i64 (q : Int)] w fun e w' => e = .returned (.bool t) ∧ Below w.heap.size w w' := by
  have hd := Lib.hid (h.below (Below.refl w.heap.size w).drew)
  have f3 := h.f3
  have c1 := h.ac1 q hq
  have c2 := h.ac2 q hq
  have ht2 := ht.out
  have k1 : (0 : Int) ≤ q := by omega
  have k2 : (q : Int) < n := by omega
  clear h ht
  generalize us q = x at c1 ht2
  generalize lm q = y at c2 ht2
  go_enter Tryz.func90, Tryz.ntmps90
  go_wp2_with fail
  go_quiet (fail)
  go_wp2_with fail
  go_ret
  exact ⟨rfl, below_drewN (Below.refl _ _) _⟩
end Go.Proofs.YtncopdhhchmpeaaGreatDoor
namespace Go.Proofs.YtncopdhhchmpeaaGreatDoor
open Go.ChangeShapes Go.WideShapes Go.ChangeAt Go.RowKit
set_option linter.unusedVariables false
set_option linter.unusedSimpArgs false
abbrev fnFullV (P : Nat) : Value := .func (.func 90) #[.pointer (some ⟨P, 0, none⟩)] #[]
section
variable {w0 w w' : World} {L : BLoc} {D : BSt}
theorem BW.kk (h : BW w0 w L D) : BkAt w L.bB L.P L.p L.B L.A L.G1 L.G2 L.G3 L.n L.c L.mb L.dP (thN D.nb) (fun _ => 0) D.pr D.us D.lm D.o1 D.v1 D.o2 D.v2 D.o3 D.v3 := h.k
theorem BW.mm (h : BW w0 w L D) : MemAt w0 w L.mb L.S L.a L.b L.N L.cb L.z D.nt D.nv D.nW D.pt D.pv D.pW 0 (.slice none 0 0) [] := h.m
theorem BW.n256 (h : BW w0 w L D) : L.n ≤ 256 := h.kk.ar.le
theorem BW.pn (h : BW w0 w L D) : L.b.n ≤ 256 := h.mm.sv.st.pg.ar.le
theorem BW.an (h : BW w0 w L D) : L.a.n ≤ 256 := h.mm.sv.st.nd.ar.le
theorem BW.lowT (h : BW w0 w L D) : L.mb < L.T ∧ L.S < L.T ∧ L.a.B < L.T ∧ L.a.G < L.T ∧ L.b.B < L.T ∧ L.b.G < L.T ∧ L.cb < L.T ∧ L.dR < L.T ∧ L.dG < L.T := by
  have h1 := h.mm.lo
  have h2 := h.md
  have h3 := h.dl
  have h4 := h.tt
  have h5 := h.db
  have h6 := h1.s
  have h7 := h1.n
  have h8 := h1.p
  omega
end
/-- A row of numbers that was made behind it all stays. -/
theorem rowT {w1 : World} {T M0 : Nat} {v : Value} {l : List Int} {a : Option Addr} {m c : Nat} (hr : w1.ownsRow M0 3 1 v l.length (l.map (Value.int .i64))) (hv : v = .slice a m c) (hm : l.length = m) (hT : T ≤ M0) (W : World) (hu : UpT T w1 W) : ∀ i, i < m → ∃ g, a = some ⟨g, 0, none⟩ ∧ T ≤ g ∧ g < W.heap.size ∧ W.cell? ⟨g, i, none⟩ = some (.int .i64 (l.getD i 0)) := by
  intro i hi
  obtain ⟨a', c', hv', ha⟩ := own_ints hr
  rw [hv] at hv'
  have e1 : a = a' := by injection hv'
  obtain ⟨g, hg, hc, hB, hlt⟩ := ha (by omega)
  rw [← e1] at hg
  exact ⟨g, hg, by omega, Nat.lt_of_lt_of_le hlt hu.1, (World.cell?_of_block (a := ⟨g, i, none⟩) (hu.2 g (by omega) hlt)).trans (hc i (by omega))⟩
def fullB (us lm : Nat → Int) (z : Int) : Bool := decide (lm z.toNat ≤ us z.toNat)
set_option maxRecDepth 100000 in
set_option maxHeartbeats 1000000 in
theorem bidx_no {base P p B A G1 G2 G3 n c mb db nb : Nat} {pr us lm o1 v1 o2 v2 o3 v3 : Nat → Int} (l : List Int) (k : Nat) (hk : Hid (l.length = k)) (hk1 : k ≤ 1000) (a : Option Addr) (c2 : Nat) (hl : Hid (∀ z, z ∈ l → 0 ≤ z ∧ z < n)) (hno : Hid (∀ i, i < k → fullB us lm (l.getD i 0) = false)) (w : World) (h : BkAt w base P p B A G1 G2 G3 n c mb db (thN nb) (fun _ => 0) pr us lm o1 v1 o2 v2 o3 v3) (hr : ∀ i, i < k → ∃ g, a = some ⟨g, 0, none⟩ ∧ g < w.heap.size ∧ w.cell? ⟨g, i, none⟩ = some (.int .i64 (l.getD i 0))) :
    Calls Tryz.prog 129 #[.slice a k c2, fnFullV P] w fun e w' => e = .returned (.int .i64 (-1)) ∧ Below w.heap.size w w' := by
  have H := Lib.hid h
  have HR := Lib.hid hr
  clear h hr
  go_enter Tryz.func129, Tryz.ntmps129
  go_wp2_with fail
  go_loopw [8] (fun i wr => ∃ j : Nat, j ≤ k ∧ i = .int .i64 j ∧ Below w.heap.size w wr) (fun i _ => k - (intOf i).toNat)
  case atStart => exact ⟨0, by omega, rfl, Below.refl _ _⟩
  case round =>
    obtain ⟨j, hj, rfl, hB⟩ := hrel
    have HB := Lib.hid hB
    by_cases hlt : j < k
    · obtain ⟨g, hag, hgl, hc⟩ := HR.out j hlt
      have hc2 := (hB.cell (p := ⟨g, j, none⟩) hgl).trans hc
      have hm : l.getD j 0 ∈ l := by have := hk.out; simp [List.getD, show j < l.length by omega]
      have hq := hl.out _ hm
      have hf := hno.out j hlt
      obtain ⟨q, hq0⟩ : ∃ q : Nat, l.getD j 0 = q := ⟨(l.getD j 0).toNat, by omega⟩
      rw [hq0] at hc2 hq hf
      have HF : Hid (decide (lm q ≤ us q) = false) := Lib.hid hf
      have hqn : q < n := by omega
      subst hag
      have k0 : (0 : Int) ≤ j := by omega
      clear hB hc hm hq hq0 hf
      go_wp2_with (first | (go_at_call 90; (with_reducible refine (bfull_is q hqn false HF _ (H.out.below HB.out)).mono ?_); rintro e w1 ⟨rfl, hb⟩; have HB2 := Lib.hid (HB.out.trans (hb.mono HB.out.size)); clear hb hc2))
      go_roundw
      case rel => exact ⟨j + 1, by omega, by go_num, HB2.out⟩
      case measure => simp [intOf]; omega
    · obtain rfl : j = k := by omega
      have hdd : decide (j < j) = false := by simp
      clear hB
      go_wp2
      go_ret
      exact ⟨rfl, HB.out⟩
set_option maxRecDepth 100000 in
set_option maxHeartbeats 1000000 in
theorem bidx_yes {base P p B A G1 G2 G3 n c mb db nb : Nat} {pr us lm o1 v1 o2 v2 o3 v3 : Nat → Int} (l : List Int) (k : Nat) (hk : Hid (l.length = k)) (hk1 : k ≤ 1000) (a : Option Addr) (c2 : Nat) (hl : Hid (∀ z, z ∈ l → 0 ≤ z ∧ z < n)) (s : Nat) (hs : s < k) (hno : Hid (∀ i, i < s → fullB us lm (l.getD i 0) = false)) (hyes : Hid (fullB us lm (l.getD s 0) = true)) (w : World) (h : BkAt w base P p B A G1 G2 G3 n c mb db (thN nb) (fun _ => 0) pr us lm o1 v1 o2 v2 o3 v3) (hr : ∀ i, i < k → ∃ g, a = some ⟨g, 0, none⟩ ∧ g < w.heap.size ∧ w.cell? ⟨g, i, none⟩ = some (.int .i64 (l.getD i 0))) :
    Calls Tryz.prog 129 #[.slice a k c2, fnFullV P] w fun e w' => e = .returned (.int .i64 s) ∧ Below w.heap.size w w' := by
  have H := Lib.hid h
  have HR := Lib.hid hr
  clear h hr
  go_enter Tryz.func129, Tryz.ntmps129
  go_wp2_with fail
  go_loopw [8] (fun i wr => ∃ j : Nat, j ≤ s ∧ i = .int .i64 j ∧ Below w.heap.size w wr) (fun i _ => k - (intOf i).toNat)
  case atStart => exact ⟨0, by omega, rfl, Below.refl _ _⟩
  case round =>
    obtain ⟨j, hj, rfl, hB⟩ := hrel
    have HB := Lib.hid hB
    have hlt : j < k := by omega
    obtain ⟨g, hag, hgl, hc⟩ := HR.out j hlt
    have hc2 := (hB.cell (p := ⟨g, j, none⟩) hgl).trans hc
    have hm : l.getD j 0 ∈ l := by have := hk.out; simp [List.getD, show j < l.length by omega]
    have hq := hl.out _ hm
    obtain ⟨q, hq0⟩ : ∃ q : Nat, l.getD j 0 = q := ⟨(l.getD j 0).toNat, by omega⟩
    rw [hq0] at hc2 hq
    have hqn : q < n := by omega
    subst hag
    have k0 : (0 : Int) ≤ j := by omega
    by_cases hjs : j < s
    · have hf := hno.out j hjs
      rw [hq0] at hf
      have HF : Hid (decide (lm q ≤ us q) = false) := Lib.hid hf
      clear hB hc hm hq hq0 hf
      go_wp2_with (first | (go_at_call 90; (with_reducible refine (bfull_is q hqn false HF _ (H.out.below HB.out)).mono ?_); rintro e w1 ⟨rfl, hb⟩; have HB2 := Lib.hid (HB.out.trans (hb.mono HB.out.size)); clear hb hc2))
      go_roundw
      case rel => exact ⟨j + 1, by omega, by go_num, HB2.out⟩
      case measure => simp [intOf]; omega
    · obtain rfl : j = s := by omega
      have hf := hyes.out
      rw [hq0] at hf
      have HF : Hid (decide (lm q ≤ us q) = true) := Lib.hid hf
      clear hB hc hm hq hq0 hf
      go_wp2_with (first | (go_at_call 90; (with_reducible refine (bfull_is q hqn true HF _ (H.out.below HB.out)).mono ?_); rintro e w1 ⟨rfl, hb⟩; have HB2 := Lib.hid (HB.out.trans (hb.mono HB.out.size)); clear hb hc2))
      go_ret
      exact ⟨rfl, HB2.out⟩
set_option maxRecDepth 100000 in
theorem bcf_is {base P p B A G1 G2 G3 n c mb db nb : Nat} {pr us lm o1 v1 o2 v2 o3 v3 : Nat → Int} (l : List Int) (k : Nat) (hk : Hid (l.length = k)) (hk1 : k ≤ 1000) (a : Option Addr) (c2 : Nat) (hl : Hid (∀ z, z ∈ l → 0 ≤ z ∧ z < n)) (t : Bool) (ht : Hid (l.any (fullB us lm) = t)) (w : World) (h : BkAt w base P p B A G1 G2 G3 n c mb db (thN nb) (fun _ => 0) pr us lm o1 v1 o2 v2 o3 v3) (hr : ∀ i, i < k → ∃ g, a = some ⟨g, 0, none⟩ ∧ g < w.heap.size ∧ w.cell? ⟨g, i, none⟩ = some (.int .i64 (l.getD i 0))) :
    Calls Tryz.prog 89 #[.slice a k c2, fnFullV P] w fun e w' => e = .returned (.bool t) ∧ Below w.heap.size w w' := by
  have hkl := hk.out
  rcases first_at (fun i => fullB us lm (l.getD i 0)) k with hno | ⟨s, hs, hy, hno⟩
  · have ht0 : t = false := by
      rw [← ht.out, List.any_eq_false]
      intro z hz
      obtain ⟨i, hi, rfl⟩ := (mem_getD l z).1 hz
      rw [hno i (by omega)]
      decide
    subst ht0
    have HC := Lib.hid (bidx_no l k hk hk1 a c2 hl (Lib.hid hno) w h hr)
    clear h hr hno ht hkl
    go_enter Tryz.func89, Tryz.ntmps89
    go_wp2_with (first | (go_at_call 129; (with_reducible refine HC.out.mono ?_); rintro e w1 ⟨rfl, hb⟩; have HB := Lib.hid hb; clear hb))
    go_ret
    exact ⟨rfl, HB.out⟩
  · have ht1 : t = true := by
      rw [← ht.out, List.any_eq_true]
      exact ⟨l.getD s 0, (mem_getD l _).2 ⟨s, by omega, rfl⟩, hy⟩
    subst ht1
    have HC := Lib.hid (bidx_yes l k hk hk1 a c2 hl s hs (Lib.hid hno) (Lib.hid hy) w h hr)
    have s0 : decide ((0 : Int) ≤ (s : Int)) = true := decide_eq_true (by omega)
    clear h hr hno hy ht hkl
    go_enter Tryz.func89, Tryz.ntmps89
    go_wp2_with (first | (go_at_call 129; (with_reducible refine HC.out.mono ?_); rintro e w1 ⟨rfl, hb⟩; have HB := Lib.hid hb; clear hb))
    go_ret
    exact ⟨rfl, HB.out⟩
set_option maxRecDepth 100000 in
theorem bpageof_ok (a : Option Addr) (m c2 : Nat) (xs : List Int) (hm : Hid (xs.length = m)) (hx : m ≤ 32) (w : World) (hs : ∀ B G, w.heap.size ≤ B → w.heap.size ≤ G → SrcU w a xs B G) :
    Calls Tryz.prog 59 #[.slice a m c2] w fun e w' => e = .returned .nilIface ∧ Below w.heap.size w w' := by
  have HS := Lib.hid hs
  clear hs
  go_enter Tryz.func59, Tryz.ntmps59
  go_wp2_with (first
    | (go_at_call 95; (with_reducible refine (pnew_ok 1 1 (Lib.hid rfl) (by decide) (by decide) _).mono ?_); rintro e w1 ⟨P, p, B, G, rfl, hP, hb⟩; have HP := Lib.hid hP; have HB := Lib.hid hb; have HS1 : Hid (SrcU w1 a xs B G) := Lib.hid ⟨fun j hj => by obtain ⟨ad, h1, h2, h3, h4, h5⟩ := (HS.out B G hP.ar.lt.1 (hP.row.lt G rfl).1).src j hj; exact ⟨ad, h1, Nat.lt_of_lt_of_le h2 hb.size, h3, h4, (hb.cell (p := ad.add j) (by rw [add_block']; exact h2)).trans h5⟩⟩; clear hP hb)
    | (go_at_call 61; (with_reducible refine (pmake_at 0 a m c2 xs hm hx 0 (Lib.hid rfl) (by decide) (Lib.hid (by decide)) (Lib.hid (by intro i hi; omega)) 0 (Lib.hid rfl) _ HP.out HS1.out).mono ?_); rintro e w2 ⟨rfl, hP2, hb2⟩; have HB2 := Lib.hid (HB.out.trans (hb2.below (b := w.heap.size) HP.out.ar.lt.1 (HP.out.row.lt G rfl).1 HB.out.size)); clear hP2 hb2))
  go_ret
  exact ⟨rfl, HB2.out⟩
set_option maxRecDepth 100000 in
set_option maxHeartbeats 1000000 in
theorem bpgcl_ok {w0 : World} {L : BLoc} {D : BSt} (x y : Nat) (a : Option Addr) (m c2 : Nat) (xs : List Int) (hm : Hid (xs.length = m)) (hx : m ≤ 32) (j : Nat) (hj : j < L.b.n) (hyes : Hid (freeB D.pt D.pv j = true)) (hno : Hid (∀ i, i < j → freeB D.pt D.pv i = false)) (v : Int) (hv : Hid (D.pv j = v)) (w : World) (h : BW w0 w L D) (hxy : L.T ≤ x ∧ x < w.heap.size ∧ L.T ≤ y ∧ y < w.heap.size) (cx : w.cell? ⟨x, 0, none⟩ = some (.pointer (some ⟨L.P, 0, none⟩))) (cy : w.cell? ⟨y, 0, none⟩ = some (.slice a m c2)) (hs : SrcU w a xs L.b.B L.b.G) :
    Calls Tryz.prog 60 #[.pointer (some ⟨x, 0, none⟩), .pointer (some ⟨y, 0, none⟩)] w fun e w' => e = .returned (.tuple #[.int .i64 j, .int .i64 v, .nilIface]) ∧ BW w0 w' L { D with pt := upd D.pt j true, pW := fresh D.pW j xs } ∧ PBelow w w' L.b.B L.b.G := by
  obtain ⟨wD, hwD⟩ : ∃ wD, wD = w.drew := ⟨_, rfl⟩
  have hbD : Below w.heap.size w wD := by rw [hwD]; exact (Below.refl _ _).drew
  have HD := Lib.hid (h.below hbD)
  have HSr : Hid (SrcU wD a xs L.b.B L.b.G) := Lib.hid ⟨fun q hq => by obtain ⟨ad, h1, h2, h3, h4, h5⟩ := hs.src q hq; exact ⟨ad, h1, Nat.lt_of_lt_of_le h2 hbD.size, h3, h4, (hbD.cell (p := ad.add q) (by rw [add_block']; exact h2)).trans h5⟩⟩
  have HBD := Lib.hid (PBelow.of_below (B := L.b.B) (G := L.b.G) hbD)
  have HS7 : Hid (∀ W, BW w0 W L { D with pt := upd D.pt j true, pW := fresh D.pW j xs } → UpT L.T w W → (World.cell? W ⟨x, 0, none⟩ = some (.pointer (some ⟨L.P, 0, none⟩)) ∧ World.cell? W ⟨L.P, 1, none⟩ = some (.pointer (some ⟨L.mb, 0, none⟩)) ∧ World.cell? W ⟨L.mb, 0, none⟩ = some (.pointer (some ⟨L.S, 0, none⟩)) ∧ World.cell? W ⟨L.S, 1, none⟩ = some (.pointer (some ⟨L.b.P, 0, none⟩)) ∧ World.cell? W ⟨y, 0, none⟩ = some (.slice a m c2))) := Lib.hid (fun W hW hu => ⟨(World.cell?_of_block (a := ⟨x, 0, none⟩) (hu.2 x hxy.1 hxy.2.1)).trans cx, hW.kk.f1, hW.mm.m0, hW.mm.sv.st.s1, (World.cell?_of_block (a := ⟨y, 0, none⟩) (hu.2 y hxy.2.2.1 hxy.2.2.2)).trans cy⟩)
  have hS0 : (World.cell? wD ⟨x, 0, none⟩ = some (.pointer (some ⟨L.P, 0, none⟩)) ∧ World.cell? wD ⟨L.P, 1, none⟩ = some (.pointer (some ⟨L.mb, 0, none⟩)) ∧ World.cell? wD ⟨L.mb, 0, none⟩ = some (.pointer (some ⟨L.S, 0, none⟩)) ∧ World.cell? wD ⟨L.S, 1, none⟩ = some (.pointer (some ⟨L.b.P, 0, none⟩)) ∧ World.cell? wD ⟨y, 0, none⟩ = some (.slice a m c2)) := ⟨(hbD.cell (p := ⟨x, 0, none⟩) hxy.2.1).trans cx, HD.out.kk.f1, HD.out.mm.m0, HD.out.mm.sv.st.s1, (hbD.cell (p := ⟨y, 0, none⟩) hxy.2.2.2).trans cy⟩
  have HLT := Lib.hid h.lowT
  clear h hs cx cy hbD
  go_enter Tryz.func60, Tryz.ntmps60
  go_upto_region 1 with fail
  refine wp_region_noPanic ?_
  refine wp_region_held_drew (S := fun w' => (World.cell? w' ⟨x, 0, none⟩ = some (.pointer (some ⟨L.P, 0, none⟩)) ∧ World.cell? w' ⟨L.P, 1, none⟩ = some (.pointer (some ⟨L.mb, 0, none⟩)) ∧ World.cell? w' ⟨L.mb, 0, none⟩ = some (.pointer (some ⟨L.S, 0, none⟩)) ∧ World.cell? w' ⟨L.S, 1, none⟩ = some (.pointer (some ⟨L.b.P, 0, none⟩)) ∧ World.cell? w' ⟨y, 0, none⟩ = some (.slice a m c2))) (by kernel_rfl) (by rw [← hwD]; exact hS0) (fun hHeld => ?_)
  rw [← hwD] at hHeld ⊢
  clear hwD hS0
  refine wpAnyH_take (i := 0) (v := ?_) (by rfl) (by kernel_rfl) (by kernel_rfl) (by kernel_rfl) (fun _ _ _ h => h) (Or.inl ⟨by kernel_rfl, ?_⟩) (by assumption) ?_; rotate_left 1; (focus (intro w hSw; (try dsimp only at hSw); simp only [List.getElem_toArray, List.getElem_cons_succ, List.getElem_cons_zero]; all_goals go_simp; all_goals (try with_reducible rfl))); (try simp only [Act.put, List.getElem_toArray, List.getElem_cons_succ, List.getElem_cons_zero, List.setIfInBounds_toArray, List.set_cons_zero, List.set_cons_succ])
  refine wpAnyH_take (i := 1) (v := ?_) (by rfl) (by kernel_rfl) (by kernel_rfl) (by kernel_rfl) (fun _ _ _ h => h) (Or.inl ⟨by kernel_rfl, ?_⟩) (by assumption) ?_; rotate_left 1; (focus (intro w hSw; (try dsimp only at hSw); simp only [List.getElem_toArray, List.getElem_cons_succ, List.getElem_cons_zero]; all_goals go_simp; all_goals (try with_reducible rfl))); (try simp only [Act.put, List.getElem_toArray, List.getElem_cons_succ, List.getElem_cons_zero, List.setIfInBounds_toArray, List.set_cons_zero, List.set_cons_succ])
  refine wpAnyH_take (i := 2) (v := ?_) (by rfl) (by kernel_rfl) (by kernel_rfl) (by kernel_rfl) (fun _ _ _ h => h) (Or.inl ⟨by kernel_rfl, ?_⟩) (by assumption) ?_; rotate_left 1; (focus (intro w hSw; (try dsimp only at hSw); simp only [List.getElem_toArray, List.getElem_cons_succ, List.getElem_cons_zero]; all_goals go_simp; all_goals (try with_reducible rfl))); (try simp only [Act.put, List.getElem_toArray, List.getElem_cons_succ, List.getElem_cons_zero, List.setIfInBounds_toArray, List.set_cons_zero, List.set_cons_succ])
  refine wpAnyH_take (i := 3) (v := ?_) (by rfl) (by kernel_rfl) (by kernel_rfl) (by kernel_rfl) (fun _ _ _ h => h) (Or.inl ⟨by kernel_rfl, ?_⟩) (by assumption) ?_; rotate_left 1; (focus (intro w hSw; (try dsimp only at hSw); simp only [List.getElem_toArray, List.getElem_cons_succ, List.getElem_cons_zero]; all_goals go_simp; all_goals (try with_reducible rfl))); (try simp only [Act.put, List.getElem_toArray, List.getElem_cons_succ, List.getElem_cons_zero, List.setIfInBounds_toArray, List.set_cons_zero, List.set_cons_succ])
  refine wpAnyH_take (i := 4) (v := ?_) (by rfl) (by kernel_rfl) (by kernel_rfl) (by kernel_rfl) (fun _ _ _ h => h) (Or.inl ⟨by kernel_rfl, ?_⟩) (by assumption) ?_; rotate_left 1; (focus (intro w hSw; (try dsimp only at hSw); simp only [List.getElem_toArray, List.getElem_cons_succ, List.getElem_cons_zero]; all_goals go_simp; all_goals (try with_reducible rfl))); (try simp only [Act.put, List.getElem_toArray, List.getElem_cons_succ, List.getElem_cons_zero, List.setIfInBounds_toArray, List.set_cons_zero, List.set_cons_succ])
  refine wpAnyH_take (i := 5) (v := ?_) (by rfl) (by kernel_rfl) (by kernel_rfl) (by kernel_rfl) (fun _ _ _ h => h) (Or.inl ⟨by kernel_rfl, ?_⟩) (by assumption) ?_; rotate_left 1; (focus (intro w hSw; (try dsimp only at hSw); simp only [List.getElem_toArray, List.getElem_cons_succ, List.getElem_cons_zero]; all_goals go_simp; all_goals (try with_reducible rfl))); (try simp only [Act.put, List.getElem_toArray, List.getElem_cons_succ, List.getElem_cons_zero, List.setIfInBounds_toArray, List.set_cons_zero, List.set_cons_succ])
  refine wpAnyH_take (i := 6) (v := ?_) (by rfl) (by kernel_rfl) (by kernel_rfl) (by kernel_rfl) (fun _ _ _ h => h) (Or.inl ⟨by kernel_rfl, ?_⟩) (by assumption) ?_; rotate_left 1; (focus (intro w hSw; (try dsimp only at hSw); simp only [List.getElem_toArray, List.getElem_cons_succ, List.getElem_cons_zero]; all_goals go_simp; all_goals (try with_reducible rfl))); (try simp only [Act.put, List.getElem_toArray, List.getElem_cons_succ, List.getElem_cons_zero, List.setIfInBounds_toArray, List.set_cons_zero, List.set_cons_succ])
  refine wpAnyH_take (i := 7) (v := ?_) (by rfl) (by kernel_rfl) (by kernel_rfl) (by kernel_rfl) (fun _ _ _ h => h) (Or.inl ⟨by kernel_rfl, ?_⟩) (by assumption) ?_; rotate_left 1; (focus (intro w hSw; (try dsimp only at hSw); simp only [List.getElem_toArray, List.getElem_cons_succ, List.getElem_cons_zero]; all_goals go_simp; all_goals (try with_reducible rfl))); (try simp only [Act.put, List.getElem_toArray, List.getElem_cons_succ, List.getElem_cons_zero, List.setIfInBounds_toArray, List.set_cons_zero, List.set_cons_succ])
  refine wpAnyH_take (i := 8) (v := ?_) (by rfl) (by kernel_rfl) (by kernel_rfl) (by kernel_rfl) (fun _ _ _ h => h) (Or.inl ⟨by kernel_rfl, ?_⟩) (by assumption) ?_; rotate_left 1; (focus (intro w hSw; (try dsimp only at hSw); simp only [List.getElem_toArray, List.getElem_cons_succ, List.getElem_cons_zero]; all_goals go_simp; all_goals (try with_reducible rfl))); (try simp only [Act.put, List.getElem_toArray, List.getElem_cons_succ, List.getElem_cons_zero, List.setIfInBounds_toArray, List.set_cons_zero, List.set_cons_succ])
  refine wpAnyH_take (i := 9) (v := ?_) (by rfl) (by kernel_rfl) (by kernel_rfl) (by kernel_rfl) (fun _ _ _ h => h) (Or.inl ⟨by kernel_rfl, ?_⟩) (by assumption) ?_; rotate_left 1; (focus (intro w hSw; (try dsimp only at hSw); simp only [List.getElem_toArray, List.getElem_cons_succ, List.getElem_cons_zero]; all_goals go_simp; all_goals (try with_reducible rfl))); (try simp only [Act.put, List.getElem_toArray, List.getElem_cons_succ, List.getElem_cons_zero, List.setIfInBounds_toArray, List.set_cons_zero, List.set_cons_succ])
  refine wpAnyH_take (i := 10) (v := ?_) (by rfl) (by kernel_rfl) (by kernel_rfl) (by kernel_rfl) (fun _ _ _ h => h) (Or.inl ⟨by kernel_rfl, ?_⟩) (by assumption) ?_; rotate_left 1; (focus (intro w hSw; (try dsimp only at hSw); simp only [List.getElem_toArray, List.getElem_cons_succ, List.getElem_cons_zero]; all_goals go_simp; all_goals (try with_reducible rfl))); (try simp only [Act.put, List.getElem_toArray, List.getElem_cons_succ, List.getElem_cons_zero, List.setIfInBounds_toArray, List.set_cons_zero, List.set_cons_succ])
  refine wpAnyH_ready (rs := [11]) (by kernel_rfl) (by simp) ?_; refine AllReadyH.cons (by rfl) (fun K hK => ?_) AllReadyH.nil; rw [if_pos (by kernel_rfl)]; simp only [List.getElem_toArray, List.getElem_cons_succ, List.getElem_cons_zero]
  go_wp2_with (first
    | (go_at_call 61; (with_reducible refine (pmake_ok a m c2 xs hm hx j hj hyes hno v hv _ HD.out.mm.sv.st.pg HSr.out).mono ?_); rintro e w2 ⟨rfl, hP2, hb2⟩; have HB2 := Lib.hid (HBD.out.trans hb2); have HW2 := Lib.hid (HD.out.page hP2 hb2); clear hP2 hb2))
  refine hK.out _ _ (HS7.out _ HW2.out (UpT.pb HB2.out (by have := HLT.out; omega) (by have := HLT.out; omega))) (fun hHeld => ?_)
  clear hK K
  (try simp only [Act.put, List.getElem_toArray, List.getElem_cons_succ, List.getElem_cons_zero, List.setIfInBounds_toArray, List.set_cons_zero, List.set_cons_succ])
  refine wpAnyH_take (i := 12) (v := ?_) (by rfl) (by kernel_rfl) (by kernel_rfl) (by kernel_rfl) (fun _ _ _ h => h) (Or.inl ⟨by kernel_rfl, ?_⟩) (by assumption) ?_; rotate_left 1; (focus (intro w hSw; (try dsimp only at hSw); simp only [List.getElem_toArray, List.getElem_cons_succ, List.getElem_cons_zero]; all_goals go_simp; all_goals (try with_reducible rfl))); (try simp only [Act.put, List.getElem_toArray, List.getElem_cons_succ, List.getElem_cons_zero, List.setIfInBounds_toArray, List.set_cons_zero, List.set_cons_succ])
  refine wpAnyH_take (i := 13) (v := ?_) (by rfl) (by kernel_rfl) (by kernel_rfl) (by kernel_rfl) (fun _ _ _ h => h) (Or.inl ⟨by kernel_rfl, ?_⟩) (by assumption) ?_; rotate_left 1; (focus (intro w hSw; (try dsimp only at hSw); simp only [List.getElem_toArray, List.getElem_cons_succ, List.getElem_cons_zero]; all_goals go_simp; all_goals (try with_reducible rfl))); (try simp only [Act.put, List.getElem_toArray, List.getElem_cons_succ, List.getElem_cons_zero, List.setIfInBounds_toArray, List.set_cons_zero, List.set_cons_succ])
  refine wpAnyH_take (i := 14) (v := ?_) (by rfl) (by kernel_rfl) (by kernel_rfl) (by kernel_rfl) (fun _ _ _ h => h) (Or.inl ⟨by kernel_rfl, ?_⟩) (by assumption) ?_; rotate_left 1; (focus (intro w hSw; (try dsimp only at hSw); simp only [List.getElem_toArray, List.getElem_cons_succ, List.getElem_cons_zero]; all_goals go_simp; all_goals (try with_reducible rfl))); (try simp only [Act.put, List.getElem_toArray, List.getElem_cons_succ, List.getElem_cons_zero, List.setIfInBounds_toArray, List.set_cons_zero, List.set_cons_succ])
  refine wpAnyH_take (i := 15) (v := ?_) (by rfl) (by kernel_rfl) (by kernel_rfl) (by kernel_rfl) (fun _ _ _ h => h) (Or.inl ⟨by kernel_rfl, ?_⟩) (by assumption) ?_; rotate_left 1; (focus (intro w hSw; (try dsimp only at hSw); simp only [List.getElem_toArray, List.getElem_cons_succ, List.getElem_cons_zero]; all_goals go_simp; all_goals (try with_reducible rfl))); (try simp only [Act.put, List.getElem_toArray, List.getElem_cons_succ, List.getElem_cons_zero, List.setIfInBounds_toArray, List.set_cons_zero, List.set_cons_succ])
  refine wpAnyH_take (i := 16) (v := ?_) (by rfl) (by kernel_rfl) (by kernel_rfl) (by kernel_rfl) (fun _ _ _ h => h) (Or.inl ⟨by kernel_rfl, ?_⟩) (by assumption) ?_; rotate_left 1; (focus (intro w hSw; (try dsimp only at hSw); simp only [List.getElem_toArray, List.getElem_cons_succ, List.getElem_cons_zero]; all_goals go_simp; all_goals (try with_reducible rfl))); (try simp only [Act.put, List.getElem_toArray, List.getElem_cons_succ, List.getElem_cons_zero, List.setIfInBounds_toArray, List.set_cons_zero, List.set_cons_succ])
  refine wpAnyH_take (i := 17) (v := ?_) (by rfl) (by kernel_rfl) (by kernel_rfl) (by kernel_rfl) (fun _ _ _ h => h) (Or.inl ⟨by kernel_rfl, ?_⟩) (by assumption) ?_; rotate_left 1; (focus (intro w hSw; (try dsimp only at hSw); simp only [List.getElem_toArray, List.getElem_cons_succ, List.getElem_cons_zero]; all_goals go_simp; all_goals (try with_reducible rfl))); (try simp only [Act.put, List.getElem_toArray, List.getElem_cons_succ, List.getElem_cons_zero, List.setIfInBounds_toArray, List.set_cons_zero, List.set_cons_succ])
  refine wpAnyH_done (by kernel_rfl) ?_ _
  refine NoPanic.normal ?_
  go_wp2_with fail
  go_ret3
  exact ⟨rfl, HW2.out, HB2.out⟩
end Go.Proofs.YtncopdhhchmpeaaGreatDoor
namespace Go.Proofs.YtncopdhhchmpeaaGreatDoor
open Go.ChangeShapes Go.WideShapes Go.ChangeAt Go.RowKit
set_option linter.unusedVariables false
set_option linter.unusedSimpArgs false
/-- The banks after one more object of bank q. -/
def boughtP (D : BSt) (q j : Nat) (v : Int) (pW : Nat → Nat → Int) : BSt := { D with pt := upd D.pt j true, pW := pW, us := addL D.us (chL D.pr q) 1, o2 := upd D.o2 j q, v2 := upd D.v2 j v }
theorem chL_in {nb n : Nat} {pr : Nat → Int} (hp : PrOk nb pr) (hn : nb ≤ n) (hb : nb ≤ 256) (q : Nat) (hq : q < nb) : (∀ z, z ∈ chL pr q → 0 ≤ z ∧ z < n) ∧ (chL pr q).length ≤ nb ∧ (chL pr q).Nodup := by
  have h := chL_bound hp hb (q + 1) q (by omega) (by omega)
  exact ⟨fun z hz => by have := h.2 z hz; omega, by omega, chL_nodup hp hb (q + 1) q (by omega) (by omega)⟩
end Go.Proofs.YtncopdhhchmpeaaGreatDoor
namespace Go.Proofs.YtncopdhhchmpeaaGreatDoor
open Go.ChangeShapes Go.WideShapes Go.ChangeAt Go.RowKit
set_option linter.unusedVariables false
set_option linter.unusedSimpArgs false
/-- Words that are handed in lie apart. -/
def SrcW (L : BLoc) (w : World) (a : Option Addr) (xs : List Int) : Prop := ∀ W, Below w.heap.size w W → ∀ B G, (B < L.T ∨ w.heap.size ≤ B) → (G < L.T ∨ w.heap.size ≤ G) → SrcU W a xs B G
theorem SrcW.run {L : BLoc} {w : World} {a : Option Addr} {xs : List Int} (h : SrcW L w a xs) (W : World) (hb : Below w.heap.size w W) (B G : Nat) (hB : B < L.T ∨ w.heap.size ≤ B) (hG : G < L.T ∨ w.heap.size ≤ G) : SrcU W a xs B G := h W hb B G hB hG
theorem srcw_none (L : BLoc) (w : World) : SrcW L w none [] := fun _ _ _ _ _ _ => ⟨fun j hj => by simp at hj⟩
end Go.Proofs.YtncopdhhchmpeaaGreatDoor
namespace Go.Proofs.YtncopdhhchmpeaaGreatDoor
open Go.ChangeShapes Go.WideShapes Go.ChangeAt Go.RowKit
set_option linter.unusedVariables false
set_option linter.unusedSimpArgs false
/-- One more bank, within y. -/
def openedB (D : BSt) (y lim : Int) : BSt := { D with nb := D.nb + 1, pr := upd D.pr D.nb y, us := upd D.us D.nb 0, lm := upd D.lm D.nb lim }
theorem BW.opened {w0 w w' : World} {L : BLoc} {D : BSt} (h : BW w0 w L D) (y lim : Int) (hy0 : -1 ≤ y) (hy1 : y < D.nb) (hn : D.nb < L.n) (hk : BkAt w' L.bB L.P L.p L.B L.A L.G1 L.G2 L.G3 L.n L.c L.mb L.dP (thN (D.nb + 1)) (fun _ => 0) (upd D.pr D.nb y) (upd D.us D.nb 0) (upd D.lm D.nb lim) D.o1 D.v1 D.o2 D.v2 D.o3 D.v3) (hb : PBelow w w' L.B L.A) : BW w0 w' L (openedB D y lim) ∧ UpT L.T w w' :=
  ⟨BW.bank h (D' := openedB D y lim) hk (hb.below h.kk.ar.lt.1 h.kk.ac.lt.1 h.bl) rfl (prok_put h.pk y hy0 hy1) hn, UpT.pb hb (by have := h.tt; omega) (by have := h.tt; omega)⟩
/-- Nothing yet. -/
def st0 : BSt := ⟨fun _ => false, fun _ => 0, fun _ b => zc b, fun _ => false, fun _ => 0, fun _ _ => 0, fun _ => false, fun _ => 0, fun _ b => zd b, 0, fun _ => 0, fun _ => 0, fun _ => 0, fun _ => -1, fun _ => 0, fun _ => -1, fun _ => 0, fun _ => -1, fun _ => 0⟩
theorem chL_root {nb : Nat} {pr : Nat → Int} (hp : PrOk nb pr) (hb : nb ≤ 256) (q : Nat) (hq : q < nb) (h : pr q = -1) : chL pr (q : Int) = [(q : Int)] := by
  rw [chL_cons hp q hq hb, h, chL_neg _ _ (by omega)]
end Go.Proofs.YtncopdhhchmpeaaGreatDoor
namespace Go.Proofs.YtncopdhhchmpeaaGreatDoor
open Go.ChangeShapes Go.WideShapes Go.ChangeAt Go.RowKit
set_option linter.unusedVariables false
set_option linter.unusedSimpArgs false
/-- What a system's own cells hold: pointers to all its parts, no words, its steps. -/
structure SyB (w : World) (s m d t b f q : Nat) (st : Int) : Prop where
  lt : s < w.heap.size
  c0 : w.cell? ⟨s, 0, none⟩ = some (.pointer (some ⟨m, 0, none⟩))
  c1 : w.cell? ⟨s, 1, none⟩ = some (.pointer (some ⟨d, 0, none⟩))
  c2 : w.cell? ⟨s, 2, none⟩ = some (.pointer (some ⟨t, 0, none⟩))
  c3 : w.cell? ⟨s, 3, none⟩ = some (.pointer (some ⟨b, 0, none⟩))
  c4 : w.cell? ⟨s, 4, none⟩ = some (.pointer (some ⟨f, 0, none⟩))
  c5 : w.cell? ⟨s, 5, none⟩ = some (.pointer (some ⟨q, 0, none⟩))
  c8 : w.cell? ⟨s, 8, none⟩ = some (.int .i64 st)
theorem SyB.same {w w' : World} {s m d t b f q : Nat} {st : Int} (h : SyB w s m d t b f q st) (hs : w.heap.size ≤ w'.heap.size) (hb : w'.heap[s]? = w.heap[s]?) : SyB w' s m d t b f q st :=
  ⟨Nat.lt_of_lt_of_le h.lt hs, (World.cell?_of_block (a := ⟨s, 0, none⟩) hb).trans h.c0, (World.cell?_of_block (a := ⟨s, 1, none⟩) hb).trans h.c1, (World.cell?_of_block (a := ⟨s, 2, none⟩) hb).trans h.c2, (World.cell?_of_block (a := ⟨s, 3, none⟩) hb).trans h.c3, (World.cell?_of_block (a := ⟨s, 4, none⟩) hb).trans h.c4, (World.cell?_of_block (a := ⟨s, 5, none⟩) hb).trans h.c5, (World.cell?_of_block (a := ⟨s, 8, none⟩) hb).trans h.c8⟩
theorem SyB.below {w w' : World} {s m d t b f q : Nat} {st : Int} (h : SyB w s m d t b f q st) (hb : Below w.heap.size w w') : SyB w' s m d t b f q st := h.same hb.size (hb.block s h.lt)
/-- Where the meters, the factories, the queue and the system's own cells lie. -/
structure SLoc where
  s : Nat
  q : Nat
  tB : Nat
  tP : Nat
  tp : Nat
  tR : Nat
  tG : Nat
  tn : Nat
  fB : Nat
  fP : Nat
  fp : Nat
  fR : Nat
  fG : Nat
  fn : Nat
/-- A system, new: nothing is there. -/
structure SysNew (w0 w : World) (L : BLoc) (X : SLoc) : Prop where
  k : BW w0 w L st0
  z : L.z = 16
  t : MtAt w X.tB X.tP X.tp X.tR X.tG X.tn X.tn (fun _ => false) (fun _ => 0) (fun _ => 0) (fun _ => 0)
  f : PlAt 127 31 w X.fB X.fP X.fp X.fR X.fG X.fn X.fn (fun _ => false) (fun _ => 0) (fun _ b => zk b)
  b : SyB w X.s L.mb L.dP X.tP L.P X.fP X.q 0
  q0 : w.cell? ⟨X.q, 0, none⟩ = some (.slice none 0 0)
  q1 : w.cell? ⟨X.q, 1, none⟩ = some (.map none)
  ql : X.q < w.heap.size
  lo : L.T ≤ X.s ∧ L.T ≤ X.q ∧ X.s ≠ X.q ∧ L.T ≤ X.fB ∧ w0.heap.size ≤ X.tB ∧ L.dB ≤ X.tB ∧ L.dR < X.tB ∧ L.dG < X.tB ∧ X.tP < L.bB ∧ X.tp < L.bB ∧ X.tR < L.bB ∧ X.tG < L.bB
theorem SysNew.below {w0 w w' : World} {L : BLoc} {X : SLoc} (h : SysNew w0 w L X) (hb : Below w.heap.size w w') : SysNew w0 w' L X :=
  ⟨h.k.below hb, h.z, h.t.below hb, h.f.below hb, h.b.below hb, (hb.cell (p := ⟨X.q, 0, none⟩) h.ql).trans h.q0, (hb.cell (p := ⟨X.q, 1, none⟩) h.ql).trans h.q1, Nat.lt_of_lt_of_le h.ql hb.size, h.lo⟩
theorem MMD.base {w00 w0 w : World} {L : BLoc} {D : BSt} (h : MMD w0 w L D) (hb : Below w00.heap.size w00 w0) : MMD w00 w L D :=
  ⟨⟨hb.trans (h.sv.bel.mono hb.size), Nat.le_trans hb.size h.sv.wb, h.sv.st⟩, h.lo, Nat.le_trans hb.size h.n0, h.nN, h.m0, h.m1, h.ml, h.mn, h.mo, h.ca, h.ok⟩
set_option maxRecDepth 100000 in
set_option maxHeartbeats 4000000 in
theorem sys_ok (n0 n1 n2 n3 n4 n5 : Nat) (h0 : 1 ≤ n0 ∧ n0 ≤ 256) (h1 : 1 ≤ n1 ∧ n1 ≤ 256) (h2 : 1 ≤ n2 ∧ n2 ≤ 256) (h3 : 1 ≤ n3 ∧ n3 ≤ 256) (h4 : 1 ≤ n4 ∧ n4 ≤ 256) (h5 : 1 ≤ n5 ∧ n5 ≤ 256) (x0 x1 x2 x3 x4 x5 : Int) (hx : Hid (x0 = n0 ∧ x1 = n1 ∧ x2 = n2 ∧ x3 = n3 ∧ x4 = n4 ∧ x5 = n5)) (w : World) :
    Calls Tryz.prog 46 #[.agg #[.int .i64 x0, .int .i64 x1, .int .i64 x2, .int .i64 x3, .int .i64 x4, .int .i64 x5]] w fun e w' => ∃ L X, e = .returned (.tuple #[(.pointer (some ⟨X.s, 0, none⟩)), .nilIface]) ∧ SysNew w w' L X ∧ Hid (L.a.n = n0 ∧ L.b.n = n1 ∧ L.dn = n2 ∧ X.tn = n3 ∧ L.n = n4 ∧ X.fn = n5) ∧ Below w.heap.size w w' := by
  have HX0 := Lib.hid hx.out.1
  have HX1 := Lib.hid hx.out.2.1
  have HX2 := Lib.hid hx.out.2.2.1
  have HX3 := Lib.hid hx.out.2.2.2.1
  have HX4 := Lib.hid hx.out.2.2.2.2.1
  have HX5 := Lib.hid hx.out.2.2.2.2.2
  go_enter Tryz.func46, Tryz.ntmps46; go_upto_region 1 with fail; generalize hA : World.alloc w _ = wb; obtain ⟨Z, hZ⟩ : ∃ Z, Z = w.heap.size := ⟨_, rfl⟩; have HBb : Hid (Below w.heap.size w wb) := Lib.hid (by rw [← hA]; exact (Below.refl _ _).alloc (Nat.le_refl _) _); have HZl : Hid (Z < wb.heap.size) := Lib.hid (by rw [← hA, hZ]; simp); have c0 : wb.cell? ⟨Z, 0, none⟩ = some (.int .i64 x0) := (by rw [← hA, hZ]; simp); have c1 : wb.cell? ⟨Z, 1, none⟩ = some (.int .i64 x1) := (by rw [← hA, hZ]; simp); have c2 : wb.cell? ⟨Z, 2, none⟩ = some (.int .i64 x2) := (by rw [← hA, hZ]; simp); have c3 : wb.cell? ⟨Z, 3, none⟩ = some (.int .i64 x3) := (by rw [← hA, hZ]; simp); have c4 : wb.cell? ⟨Z, 4, none⟩ = some (.int .i64 x4) := (by rw [← hA, hZ]; simp); have c5 : wb.cell? ⟨Z, 5, none⟩ = some (.int .i64 x5) := (by rw [← hA, hZ]; simp); have HCk : Hid (∀ W, Below wb.heap.size wb W → W.cell? ⟨Z, 2, none⟩ = some (.int .i64 x2) ∧ W.cell? ⟨Z, 3, none⟩ = some (.int .i64 x3) ∧ W.cell? ⟨Z, 4, none⟩ = some (.int .i64 x4) ∧ W.cell? ⟨Z, 5, none⟩ = some (.int .i64 x5)) := Lib.hid (fun W hW => ⟨(hW.cell (p := ⟨Z, 2, none⟩) HZl.out).trans c2, (hW.cell (p := ⟨Z, 3, none⟩) HZl.out).trans c3, (hW.cell (p := ⟨Z, 4, none⟩) HZl.out).trans c4, (hW.cell (p := ⟨Z, 5, none⟩) HZl.out).trans c5⟩); rw [← hZ]; clear hA hZ c2 c3 c4 c5
  go_upto_region 16 with (first
    | (go_at_call 83; (with_reducible refine (mnew_ok x0 x1 16 n0 n1 HX0 HX1 h0.1 h0.2 h1.1 h1.2 (by decide) (by decide) _).mono ?_); rintro e w1 ⟨mb, S, a, b, N, cb, rfl, hm, hn⟩; have HM := Lib.hid hm; have HN := Lib.hid hn.out; have HB1 : Hid (Below wb.heap.size wb w1) := Lib.hid hm.sv.bel; obtain ⟨d2, d3, d4, d5⟩ := HCk.out _ HB1.out; clear hm hn c0 c1)
    | (go_at_call 84; (with_reducible refine (dnew_ok x2 n2 HX2 h2.1 h2.2 _).mono ?_); rintro e w2 ⟨dP, dp, dR, dG, dQ, rfl, hd, hb⟩; have HD := Lib.hid hd; have HB2 := Lib.hid hb; have HB2b := Lib.hid (HB1.out.trans (hb.mono HB1.out.size)); obtain ⟨e2, e3, e4, e5⟩ := HCk.out _ HB2b.out; clear hd hb d2 d3 d4 d5)
    | (go_at_call 85; (with_reducible refine (mtnew_ok x3 n3 HX3 h3.1 h3.2 _).mono ?_); rintro e w3 ⟨tP, tp, tR, tG, rfl, ht, hb⟩; have HT := Lib.hid ht; have HB3 := Lib.hid hb; have HB3b := Lib.hid (HB2b.out.trans (hb.mono HB2b.out.size)); obtain ⟨f2, f3, f4, f5⟩ := HCk.out _ HB3b.out; clear ht hb e2 e3 e4 e5)
    | (go_at_call 86; (with_reducible refine (bknew_ok x4 n4 mb dP HX4 h4.1 h4.2 _).mono ?_); rintro e w4 ⟨P, p, B, A, G1, G2, G3, rfl, hk, hb⟩; have HK := Lib.hid hk; have HB4 := Lib.hid hb; have HB4b := Lib.hid (HB3b.out.trans (hb.mono HB3b.out.size)); obtain ⟨g2, g3, g4, g5⟩ := HCk.out _ HB4b.out; clear hk hb f2 f3 f4 f5)
    | (go_at_call 87; (with_reducible refine (mknew_ok x5 n5 HX5 h5.1 h5.2 _).mono ?_); rintro e w5 ⟨fP, fp, fR, fG, rfl, hf, hb⟩; have HF := Lib.hid hf; have HB5 := Lib.hid hb; have HB5b := Lib.hid (HB4b.out.trans (hb.mono HB4b.out.size)); clear hf hb g2 g3 g4 g5))
  go_wp2_with fail
  go_ret2
  have s2 := HB2.out.size
  have s3 := HB3.out.size
  have s4 := HB4.out.size
  have s5 := HB5.out.size
  have hd := HD.out
  have hk := HK.out
  have hQ := (hd.qs.lt dQ rfl).2
  have b5 : Below w5.heap.size w5 ((w5.alloc (.cells #[.slice none 0 0, .map none] 135 (0, 0))).alloc (.cells #[.pointer (some ⟨mb, 0, none⟩), .pointer (some ⟨dP, 0, none⟩), .pointer (some ⟨tP, 0, none⟩), .pointer (some ⟨P, 0, none⟩), .pointer (some ⟨fP, 0, none⟩), .pointer (some ⟨w5.heap.size, 0, none⟩), .slice none 0 0, .slice none 0 0, .int .i64 0] 38 (0, 0))) := ((Below.refl _ _).alloc (Nat.le_refl _) _).alloc (by simp) _
  have b4 := HB5.out.trans (b5.mono s5)
  have b3 := HB4.out.trans (b4.mono s4)
  have b2 := HB3.out.trans (b3.mono s3)
  have b1 := HB2.out.trans (b2.mono s2)
  have hM0 : MMD w w1 ⟨mb, S, a, b, N, cb, w1.heap.size, dP, dp, dR, dG, dQ, n2, n2, w3.heap.size, P, p, B, A, G1, G2, G3, n4, n4, w4.heap.size, 16⟩ st0 := MMD.base HM.out HBb.out
  refine ⟨⟨mb, S, a, b, N, cb, w1.heap.size, dP, dp, dR, dG, dQ, n2, n2, w3.heap.size, P, p, B, A, G1, G2, G3, n4, n4, w4.heap.size, 16⟩, ⟨w5.heap.size + 1, w5.heap.size, w2.heap.size, tP, tp, tR, tG, n3, w4.heap.size, fP, fp, fR, fG, n5⟩, rfl, ?_, Lib.hid ⟨HN.out.1, HN.out.2, rfl, rfl, rfl, rfl⟩, HBb.out.trans ((HB1.out.trans (b1.mono HB1.out.size)).mono HBb.out.size)⟩
  have e : thN 0 = fun _ => false := by funext i; simp [thN]
  refine ⟨⟨MemAt.below hM0 b1, hd.below b2, ?_, ⟨HM.out.ml, HM.out.ca.cl, HM.out.nN⟩, ⟨Nat.lt_of_lt_of_le hd.pl.pl s3, Nat.lt_of_lt_of_le hd.pl.ar.pl s3, Nat.lt_of_lt_of_le hd.pl.ar.lt.2 s3, Nat.lt_of_lt_of_le hd.pl.gl.2 s3, Nat.lt_of_lt_of_le hQ s3⟩, Nat.le_trans s2 s3, fun i hi => by simp [st0] at hi, Nat.zero_le _, ⟨s4, hk.pl, hk.ar.pl, hk.ar.lt.2, hk.ac.lt.2, hk.t1.lt.2, hk.t2.lt.2, hk.t3.lt.2⟩, b4.size⟩, rfl, HT.out.below b3, HF.out.below b5, ⟨by simp, by simp, by simp, by simp, by simp, by simp, by simp, by simp⟩, by simp, by simp, (by simp; omega), ⟨Nat.le_trans s5 (Nat.le_succ _), s5, Nat.succ_ne_self _, Nat.le_refl _, Nat.le_trans HBb.out.size (Nat.le_trans HB1.out.size HB2.out.size), s2, hd.pl.ar.lt.2, hd.pl.gl.2, HT.out.pl, HT.out.ar.pl, HT.out.ar.lt.2, (HT.out.row.lt tG rfl).2⟩⟩
  show BkAt _ _ _ _ _ _ _ _ _ _ _ _ _ (thN 0) _ _ _ _ _ _ _ _ _ _
  rw [e]
  exact hk.below b4
end Go.Proofs.YtncopdhhchmpeaaGreatDoor
namespace Go.Proofs.YtncopdhhchmpeaaGreatDoor
open Go.ChangeShapes Go.WideShapes Go.ChangeAt Go.RowKit
set_option linter.unusedVariables false
set_option linter.unusedSimpArgs false
theorem info_light {P : Program} {T : TypeId} (h : ((P.info? T).bind fun i => i.zero.map fun z => decide (i.bytes ≤ 4000)) = some true) : ∃ i z, P.info? T = some i ∧ i.zero = some z ∧ i.bytes ≤ 4000 := by
  cases hi : P.info? T with
  | none => rw [hi] at h; cases h
  | some i =>
    rw [hi] at h
    cases hz : i.zero with
    | none => simp [hz] at h
    | some z => simp [hz] at h; exact ⟨i, z, rfl, hz, h⟩
set_option maxRecDepth 100000 in
set_option maxHeartbeats 8000000 in
theorem rs8_is (w : World) : Calls Tryz.prog 47 #[.int .i64 12, .int .i64 12, .int .i64 6, .int .i64 8, .int .i64 6, .int .i64 4] w fun e w' => ∃ x, e = .returned (.pointer (some ⟨x, 0, none⟩)) ∧ Below w.heap.size w w' := by
  obtain ⟨iN, zN, hi1, hi2, hi3⟩ := info_light (P := Tryz.prog) (T := 163) (by kernel_rfl); have HIN := Lib.hid (⟨hi1, hi2, hi3⟩ : Tryz.prog.info? 163 = some iN ∧ iN.zero = some zN ∧ iN.bytes ≤ 4000); clear hi1 hi2 hi3
  obtain ⟨iP, zP, hi1, hi2, hi3⟩ := info_light (P := Tryz.prog) (T := 179) (by kernel_rfl); have HIP := Lib.hid (⟨hi1, hi2, hi3⟩ : Tryz.prog.info? 179 = some iP ∧ iP.zero = some zP ∧ iP.bytes ≤ 4000); clear hi1 hi2 hi3
  obtain ⟨iD, zD, hi1, hi2, hi3⟩ := info_light (P := Tryz.prog) (T := 293) (by kernel_rfl); have HID := Lib.hid (⟨hi1, hi2, hi3⟩ : Tryz.prog.info? 293 = some iD ∧ iD.zero = some zD ∧ iD.bytes ≤ 4000); clear hi1 hi2 hi3
  obtain ⟨iM, zM, hi1, hi2, hi3⟩ := info_light (P := Tryz.prog) (T := 295) (by kernel_rfl); have HIM := Lib.hid (⟨hi1, hi2, hi3⟩ : Tryz.prog.info? 295 = some iM ∧ iM.zero = some zM ∧ iM.bytes ≤ 4000); clear hi1 hi2 hi3
  obtain ⟨iB, zB, hi1, hi2, hi3⟩ := info_light (P := Tryz.prog) (T := 297) (by kernel_rfl); have HIB := Lib.hid (⟨hi1, hi2, hi3⟩ : Tryz.prog.info? 297 = some iB ∧ iB.zero = some zB ∧ iB.bytes ≤ 4000); clear hi1 hi2 hi3
  obtain ⟨iF, zF, hi1, hi2, hi3⟩ := info_light (P := Tryz.prog) (T := 299) (by kernel_rfl); have HIF := Lib.hid (⟨hi1, hi2, hi3⟩ : Tryz.prog.info? 299 = some iF ∧ iF.zero = some zF ∧ iF.bytes ≤ 4000); clear hi1 hi2 hi3
  have HZ0 : Hid (Below w.heap.size w w) := Lib.hid (Below.refl _ _)
  go_enter Tryz.func47, Tryz.ntmps47
  go_upto_region 2 with (first
    | (go_at_call 88; (with_reducible refine (slots_is 12 12 (Lib.hid rfl) (by decide) w).mono ?_); rintro e w1 ⟨v1, rfl, hr, hb⟩; obtain ⟨a1, c1, rfl⟩ := own_shape' hr; have HZ1 := Lib.hid (HZ0.out.trans (hb.mono HZ0.out.size)); clear hr hb)
    | (go_at_call 88; (with_reducible refine (slots_is 12 12 (Lib.hid rfl) (by decide) w1).mono ?_); rintro e w2 ⟨v2, rfl, hr, hb⟩; obtain ⟨a2, c2, rfl⟩ := own_shape' hr; have HZ2 := Lib.hid (HZ1.out.trans (hb.mono HZ1.out.size)); clear hr hb)
    | (go_at_call 88; (with_reducible refine (slots_is 6 6 (Lib.hid rfl) (by decide) w2).mono ?_); rintro e w3 ⟨v3, rfl, hr, hb⟩; obtain ⟨a3, c3, rfl⟩ := own_shape' hr; have HZ3 := Lib.hid (HZ2.out.trans (hb.mono HZ2.out.size)); clear hr hb)
    | (go_at_call 88; (with_reducible refine (slots_is 8 8 (Lib.hid rfl) (by decide) w3).mono ?_); rintro e w4 ⟨v4, rfl, hr, hb⟩; obtain ⟨a4, c4, rfl⟩ := own_shape' hr; have HZ4 := Lib.hid (HZ3.out.trans (hb.mono HZ3.out.size)); clear hr hb)
    | (go_at_call 88; (with_reducible refine (slots_is 6 6 (Lib.hid rfl) (by decide) w4).mono ?_); rintro e w5 ⟨v5, rfl, hr, hb⟩; obtain ⟨a5, c5, rfl⟩ := own_shape' hr; have HZ5 := Lib.hid (HZ4.out.trans (hb.mono HZ4.out.size)); clear hr hb)
    | (go_at_call 88; (with_reducible refine (slots_is 4 4 (Lib.hid rfl) (by decide) w5).mono ?_); rintro e w6 ⟨v6, rfl, hr, hb⟩; obtain ⟨a6, c6, rfl⟩ := own_shape' hr; have HZ6 := Lib.hid (HZ5.out.trans (hb.mono HZ5.out.size)); clear hr hb))
  obtain ⟨w7, hw7⟩ : ∃ w7, w7 = w6.alloc (.cells #[.slice a1 12 c1, .slice a2 12 c2, .slice a3 6 c3, .slice a4 8 c4, .slice a5 6 c5, .slice a6 4 c6, .slice none 0 0, .slice none 0 0, .slice none 0 0, .slice none 0 0, .slice none 0 0, .slice none 0 0, .slice none 0 0, .slice none 0 0, .slice none 0 0, .int .i64 0] 155 (0, 0)) := ⟨_, rfl⟩
  have HX7 : Hid (SyBx w6 w7 w6.heap.size) := Lib.hid (by
    rw [hw7]
    exact ⟨(Below.refl _ _).alloc (Nat.le_refl _) _, rfl, ⟨_, own_box w6 _ _ _ 16 _ rfl rfl (Nat.le_refl _)⟩⟩)
  rw [← hw7]
  clear hw7
  go_wp2_with (first
    | (at_make; refine wpList_make_full _ rfl _ _ 148 rfl 0 163 iN zN iN.size Tryz.underlying148 HIN.out.1 HIN.out.2.1 rfl .i64 .i64 _ _ 12 rfl rfl rfl rfl (by have := HIN.out.2.2; omega) (by decide) (Nat.zero_le _) ?_); intro w8 hown hgrow; have HX8 := Lib.hid (HX7.out.grow hgrow); obtain ⟨⟨u6, c6⟩, z6⟩ := HX8.out.cell 6 (by decide); clear hown hgrow
    | (at_make; refine wpList_make_full _ rfl _ _ 149 rfl 0 179 iP zP iP.size Tryz.underlying149 HIP.out.1 HIP.out.2.1 rfl .i64 .i64 _ _ 12 rfl rfl rfl rfl (by have := HIP.out.2.2; omega) (by decide) (Nat.zero_le _) ?_); intro w9 hown hgrow; have HX9 := Lib.hid (HX8.out.next 6 _ hgrow); obtain ⟨⟨u7, c7⟩, z7⟩ := HX9.out.cell 7 (by decide); clear hown hgrow
    | (at_make; refine wpList_make_full _ rfl _ _ 150 rfl 0 293 iD zD iD.size Tryz.underlying150 HID.out.1 HID.out.2.1 rfl .i64 .i64 _ _ 6 rfl rfl rfl rfl (by have := HID.out.2.2; omega) (by decide) (Nat.zero_le _) ?_); intro w10 hown hgrow; have HX10 := Lib.hid (HX9.out.next 7 _ hgrow); obtain ⟨⟨u8, c8⟩, z8⟩ := HX10.out.cell 8 (by decide); clear hown hgrow
    | (at_make; refine wpList_make_full _ rfl _ _ 151 rfl 0 295 iM zM iM.size Tryz.underlying151 HIM.out.1 HIM.out.2.1 rfl .i64 .i64 _ _ 8 rfl rfl rfl rfl (by have := HIM.out.2.2; omega) (by decide) (Nat.zero_le _) ?_); intro w11 hown hgrow; have HX11 := Lib.hid (HX10.out.next 8 _ hgrow); obtain ⟨⟨u9, c9⟩, z9⟩ := HX11.out.cell 9 (by decide); clear hown hgrow
    | (at_make; refine wpList_make_full _ rfl _ _ 152 rfl 0 297 iB zB iB.size Tryz.underlying152 HIB.out.1 HIB.out.2.1 rfl .i64 .i64 _ _ 6 rfl rfl rfl rfl (by have := HIB.out.2.2; omega) (by decide) (Nat.zero_le _) ?_); intro w12 hown hgrow; have HX12 := Lib.hid (HX11.out.next 9 _ hgrow); obtain ⟨⟨u10, c10⟩, z10⟩ := HX12.out.cell 10 (by decide); clear hown hgrow
    | (at_make; refine wpList_make_full _ rfl _ _ 153 rfl 0 299 iF zF iF.size Tryz.underlying153 HIF.out.1 HIF.out.2.1 rfl .i64 .i64 _ _ 4 rfl rfl rfl rfl (by have := HIF.out.2.2; omega) (by decide) (Nat.zero_le _) ?_); intro w13 hown hgrow; have HX13 := Lib.hid (HX12.out.next 10 _ hgrow); obtain ⟨⟨u11, c11⟩, z11⟩ := HX13.out.cell 11 (by decide); clear hown hgrow)
  go_ret
  exact ⟨_, rfl, (HZ6.out.trans (HX13.out.bel.mono HZ6.out.size)).setCell HZ6.out.size _⟩
end Go.Proofs.YtncopdhhchmpeaaGreatDoor
namespace Go.Proofs.YtncopdhhchmpeaaGreatDoor
open Go.ChangeShapes Go.WideShapes Go.ChangeAt Go.RowKit
set_option linter.unusedVariables false
set_option linter.unusedSimpArgs false
section
variable {s m d t b f q : Nat} {st : Int}
end
set_option maxRecDepth 100000 in
set_option maxHeartbeats 2000000 in
theorem script_ok (w : World) : Calls Tryz.prog 11 #[] w fun e w' => ∃ L X x, e = .returned (.tuple #[(.pointer (some ⟨X.s, 0, none⟩)), .pointer (some ⟨x, 0, none⟩)]) ∧ SysNew w w' L X ∧ Hid (L.a.n = 12 ∧ L.b.n = 12 ∧ L.dn = 6 ∧ X.tn = 8 ∧ L.n = 6 ∧ X.fn = 4) ∧ Below w.heap.size w w' := by
  go_enter Tryz.func11, Tryz.ntmps11
  go_wp2_with (first
    | (go_at_call 46; (with_reducible refine (sys_ok 12 12 6 8 6 4 (by decide) (by decide) (by decide) (by decide) (by decide) (by decide) 12 12 6 8 6 4 (Lib.hid (by decide)) _).mono ?_); rintro e w1 ⟨L, X, rfl, hs, hn, hb⟩; have HSy := Lib.hid hs; have HN := Lib.hid hn.out; have HB1 := Lib.hid hb; clear hs hn hb)
    | (go_at_call 47; (with_reducible refine (rs8_is _).mono ?_); rintro e w2 ⟨x, rfl, hb⟩; have HB2 := Lib.hid hb; clear hb))
  go_ret2
  exact ⟨L, X, x, rfl, HSy.out.below HB2.out, HN, HB1.out.trans (HB2.out.mono HB1.out.size)⟩
end Go.Proofs.YtncopdhhchmpeaaGreatDoor
namespace Go.Proofs.YtncopdhhchmpeaaGreatDoor
open Go.ChangeShapes Go.WideShapes Go.ChangeAt Go.RowKit
set_option linter.unusedVariables false
set_option linter.unusedSimpArgs false
theorem note_one (o a b c k0 k1 k2 k3 k4 j0 j1 j2 j3 j4 i0 i1 i2 i3 i4 : Int) : (#[.int .u32 o, .int .u32 a, .int .u32 b, .int .u32 c, .int .i64 k0, .int .i64 k1, .int .i64 k2, .int .i64 k3, .int .u32 k4, .int .i64 j0, .int .i64 j1, .int .i64 j2, .int .i64 j3, .int .u32 j4, .int .i64 i0, .int .i64 i1, .int .i64 i2, .int .i64 i3, .int .u32 i4] : Array Value).all (·.oneCell') = true := by simp [Value.oneCell']
theorem infoNote : (Tryz.prog.info? 64).map (·.size) = some 19 := by kernel_rfl
theorem nthere_new (w : World) (z : Array Value) (n : Nat) (hz : z.size = n) (T : TypeId) : World.there (w.alloc (.cells z T (0, 0))) w.heap.size 0 n := fun j hj => by
  simp [hz, hj]
theorem nbelow_cells {N b : Nat} {W0 w : World} (h : Below N W0 w) (hb : N ≤ b) : ∀ (cs : List Value) (o : Nat), Below N W0 (w.setCells b o cs) := by
  intro cs
  induction cs generalizing w with
  | nil => intro o; exact h
  | cons v r ih => intro o; exact ih (h.setCell hb v) (o + 1)
theorem nload {W : World} {b : Nat} {cs : List Value} (hl : cs.length = 19) (hr : W.rangeAt b 0 cs) : (loadVar 64 ⟨b, 0, none⟩).run Tryz.prog W = .ok (.agg cs.toArray) W :=
  run_loadVar_mid (P := Tryz.prog) W b 0 64 cs _ hr Tryz.underlying64 rfl (by rw [hl]; exact infoNote)
set_option maxRecDepth 100000 in
set_option maxHeartbeats 1000000 in
theorem ofails_is (n : Int) (h0 : 0 ≤ n) (h1 : n ≤ 100) (w : World) : Calls Tryz.prog 124 #[.int .i64 n] w fun e w' => e = .returned (Value.agg #[.int .u32 n, .int .u32 0, .int .u32 0, .int .u32 0, .int .i64 0, .int .i64 0, .int .i64 0, .int .i64 0, .int .u32 0, .int .i64 0, .int .i64 0, .int .i64 0, .int .i64 0, .int .u32 0, .int .i64 0, .int .i64 0, .int .i64 0, .int .i64 0, .int .u32 0]) ∧ Below w.heap.size w w' := by
  have hw : IntKind.u32.wrap n = n := by rw [IntKind.wrap_u32]; omega
  go_enter Tryz.func124, Tryz.ntmps124
  go_upto_region 1 with fail
  generalize hA : World.alloc w _ = wA
  have HA : Hid (Below w.heap.size w wA ∧ World.there wA w.heap.size 0 19) := Lib.hid (by rw [← hA]; exact ⟨(Below.refl _ _).alloc (Nat.le_refl _) _, nthere_new _ _ _ (by rfl) _⟩)
  clear hA
  go_wp2_with (first
    | (refine wpList_store_mid (by rfl) _ _ _ (by rfl) w.heap.size 0 ([.int .u32 n, .int .u32 0, .int .u32 0, .int .u32 0, .int .i64 0, .int .i64 0, .int .i64 0, .int .i64 0, .int .u32 0, .int .i64 0, .int .i64 0, .int .i64 0, .int .i64 0, .int .u32 0, .int .i64 0, .int .i64 0, .int .i64 0, .int .i64 0, .int .u32 0] : List Value).toArray (by rfl) (by rfl) HA.out.2 infoNote (note_one _ _ _ _ _ _ _ _ _ _ _ _ _ _ _ _ _ _ _) ?_))
  generalize hS : World.setCells wA _ _ _ = wS
  have HS : Hid (Below w.heap.size w wS ∧ wS.rangeAt w.heap.size 0 [.int .u32 n, .int .u32 0, .int .u32 0, .int .u32 0, .int .i64 0, .int .i64 0, .int .i64 0, .int .i64 0, .int .u32 0, .int .i64 0, .int .i64 0, .int .i64 0, .int .i64 0, .int .u32 0, .int .i64 0, .int .i64 0, .int .i64 0, .int .i64 0, .int .u32 0]) := Lib.hid (by rw [← hS]; exact ⟨nbelow_cells HA.out.1 (Nat.le_refl _) _ _, World.rangeAt_setCells_same wA w.heap.size 0 [.int .u32 n, .int .u32 0, .int .u32 0, .int .u32 0, .int .i64 0, .int .i64 0, .int .i64 0, .int .i64 0, .int .u32 0, .int .i64 0, .int .i64 0, .int .i64 0, .int .i64 0, .int .u32 0, .int .i64 0, .int .i64 0, .int .i64 0, .int .i64 0, .int .u32 0] HA.out.2⟩)
  have hld := nload rfl HS.out.2
  refine bodyPost_ret (v := (Value.agg #[.int .u32 n, .int .u32 0, .int .u32 0, .int .u32 0, .int .i64 0, .int .i64 0, .int .i64 0, .int .i64 0, .int .u32 0, .int .i64 0, .int .i64 0, .int .i64 0, .int .i64 0, .int .u32 0, .int .i64 0, .int .i64 0, .int .i64 0, .int .i64 0, .int .u32 0])) (by simp [results, Tryz.results124, Act.put, asAddr, hld]) rfl ⟨rfl, HS.out.1⟩
set_option maxRecDepth 100000 in
set_option maxHeartbeats 1000000 in
theorem okeyed_is (k0 k1 k2 k3 k4 : Int) (w : World) : Calls Tryz.prog 137 #[(Value.agg #[.int .i64 k0, .int .i64 k1, .int .i64 k2, .int .i64 k3, .int .u32 k4])] w fun e w' => e = .returned (Value.agg #[.int .u32 0, .int .u32 0, .int .u32 0, .int .u32 0, .int .i64 k0, .int .i64 k1, .int .i64 k2, .int .i64 k3, .int .u32 k4, .int .i64 0, .int .i64 0, .int .i64 0, .int .i64 0, .int .u32 0, .int .i64 0, .int .i64 0, .int .i64 0, .int .i64 0, .int .u32 0]) ∧ Below w.heap.size w w' := by
  go_enter Tryz.func137, Tryz.ntmps137
  go_upto_region 1 with fail
  generalize hA : World.alloc w _ = wK
  have HK : Hid (Below w.heap.size w wK ∧ KeyC wK w.heap.size k0 k1 k2 k3 k4 ∧ wK.heap.size = w.heap.size + 1) := Lib.hid (by rw [← hA]; exact ⟨(Below.refl _ _).alloc (Nat.le_refl _) _, KeyC.new w k0 k1 k2 k3 k4 _, by simp⟩)
  clear hA
  generalize hA : World.alloc wK _ = wA
  have HA : Hid (Below w.heap.size w wA ∧ World.there wA (w.heap.size + 1) 0 19 ∧ KeyC wA w.heap.size k0 k1 k2 k3 k4) := Lib.hid (by rw [← hA, ← HK.out.2.2]; exact ⟨HK.out.1.alloc HK.out.1.size _, nthere_new _ _ 19 (by rfl) _, HK.out.2.1.below ((Below.refl _ _).alloc (Nat.le_refl _) _)⟩)
  clear hA
  have q0 := HA.out.2.2.c0
  have q1 := HA.out.2.2.c1
  have q2 := HA.out.2.2.c2
  have q3 := HA.out.2.2.c3
  have q4 := HA.out.2.2.c4
  go_wp2_with (first
    | (refine wpList_store_mid (by rfl) _ _ _ (by rfl) (w.heap.size + 1) 0 ([.int .u32 0, .int .u32 0, .int .u32 0, .int .u32 0, .int .i64 k0, .int .i64 k1, .int .i64 k2, .int .i64 k3, .int .u32 k4, .int .i64 0, .int .i64 0, .int .i64 0, .int .i64 0, .int .u32 0, .int .i64 0, .int .i64 0, .int .i64 0, .int .i64 0, .int .u32 0] : List Value).toArray (by rfl) (by rfl) HA.out.2.1 infoNote (note_one _ _ _ _ _ _ _ _ _ _ _ _ _ _ _ _ _ _ _) ?_))
  generalize hS : World.setCells wA _ _ _ = wS
  have HS : Hid (Below w.heap.size w wS ∧ wS.rangeAt (w.heap.size + 1) 0 [.int .u32 0, .int .u32 0, .int .u32 0, .int .u32 0, .int .i64 k0, .int .i64 k1, .int .i64 k2, .int .i64 k3, .int .u32 k4, .int .i64 0, .int .i64 0, .int .i64 0, .int .i64 0, .int .u32 0, .int .i64 0, .int .i64 0, .int .i64 0, .int .i64 0, .int .u32 0]) := Lib.hid (by rw [← hS]; exact ⟨nbelow_cells HA.out.1 (Nat.le_succ _) _ _, World.rangeAt_setCells_same wA (w.heap.size + 1) 0 [.int .u32 0, .int .u32 0, .int .u32 0, .int .u32 0, .int .i64 k0, .int .i64 k1, .int .i64 k2, .int .i64 k3, .int .u32 k4, .int .i64 0, .int .i64 0, .int .i64 0, .int .i64 0, .int .u32 0, .int .i64 0, .int .i64 0, .int .i64 0, .int .i64 0, .int .u32 0] HA.out.2.1⟩)
  have hld := nload rfl HS.out.2
  refine bodyPost_ret (v := (Value.agg #[.int .u32 0, .int .u32 0, .int .u32 0, .int .u32 0, .int .i64 k0, .int .i64 k1, .int .i64 k2, .int .i64 k3, .int .u32 k4, .int .i64 0, .int .i64 0, .int .i64 0, .int .i64 0, .int .u32 0, .int .i64 0, .int .i64 0, .int .i64 0, .int .i64 0, .int .u32 0])) (by simp [results, Tryz.results137, Act.put, asAddr, hld]) rfl ⟨rfl, HS.out.1⟩
/-- The cells of a call: the system, the key, the note. -/
structure CallC (cs : List Value) (s : Nat) (k0 k1 k2 k3 k4 o x : Int) : Prop where
  len : cs.length = 25
  c0 : cs[0]? = some (.pointer (some ⟨s, 0, none⟩))
  c1 : cs[1]? = some (.int .i64 k0)
  c2 : cs[2]? = some (.int .i64 k1)
  c3 : cs[3]? = some (.int .i64 k2)
  c4 : cs[4]? = some (.int .i64 k3)
  c5 : cs[5]? = some (.int .u32 k4)
  c6 : cs[6]? = some (.int .u32 o)
  c7 : cs[7]? = some (.int .u32 x)
  one : ∀ v, v ∈ cs → v.oneCell' = true
theorem infoCall : (Tryz.prog.info? 129).map (·.size) = some 25 := by kernel_rfl
theorem cload {W : World} {b : Nat} {cs : List Value} (hl : cs.length = 25) (hr : W.rangeAt b 0 cs) : (loadVar 129 ⟨b, 0, none⟩).run Tryz.prog W = .ok (.agg cs.toArray) W :=
  run_loadVar_mid (P := Tryz.prog) W b 0 129 cs _ hr Tryz.underlying129 rfl (by rw [hl]; exact infoCall)
theorem cbox (w : World) (cs : List Value) (T : TypeId) : (w.alloc (.cells cs.toArray T (0, 0))).rangeAt w.heap.size 0 cs := fun j v hv => by simpa using hv
theorem CallC.cell {w : World} {b : Nat} {cs : List Value} (hr : w.rangeAt b 0 cs) (j : Nat) (v : Value) (hv : cs[j]? = some v) : w.cell? ⟨b, j, none⟩ = some v := by
  have := hr j v hv
  rwa [Nat.zero_add] at this
section
variable {cs : List Value} {s : Nat} {k0 k1 k2 k3 k4 o x : Int}
set_option maxRecDepth 100000 in
set_option maxHeartbeats 1000000 in
theorem oword_is (hc : Hid (CallC cs s k0 k1 k2 k3 k4 o x)) (w : World) : Calls Tryz.prog 140 #[.agg cs.toArray] w fun e w' => e = .returned (.int .u32 x) ∧ Below w.heap.size w w' := by
  go_enter Tryz.func140, Tryz.ntmps140
  go_upto_region 1 with fail
  generalize hA : World.alloc w _ = wA
  have HA : Hid (Below w.heap.size w wA ∧ wA.rangeAt w.heap.size 0 cs) := Lib.hid (by rw [← hA]; exact ⟨(Below.refl _ _).alloc (Nat.le_refl _) _, cbox _ _ _⟩)
  clear hA
  have q7 := CallC.cell HA.out.2 7 _ hc.out.c7
  go_wp2_with fail
  go_ret
  exact ⟨rfl, HA.out.1⟩
set_option maxRecDepth 100000 in
set_option maxHeartbeats 1000000 in
theorem oplace_is (hc : Hid (CallC cs s k0 k1 k2 k3 k4 o x)) (h0 : 0 ≤ x) (h1 : x ≤ 4294967295) (w : World) : Calls Tryz.prog 135 #[.agg cs.toArray] w fun e w' => e = .returned (.int .i64 x) ∧ Below w.heap.size w w' := by
  have hw : IntKind.i64.wrap x = x := by rw [IntKind.wrap_i64]; omega
  go_enter Tryz.func135, Tryz.ntmps135
  go_upto_region 1 with fail
  generalize hA : World.alloc w _ = wA
  have HA : Hid (Below w.heap.size w wA ∧ wA.rangeAt w.heap.size 0 cs) := Lib.hid (by rw [← hA]; exact ⟨(Below.refl _ _).alloc (Nat.le_refl _) _, cbox _ _ _⟩)
  clear hA
  go_wp2_with (first
    | (refine wpList_load_mid (by rfl) _ _ (by rfl) w.heap.size 0 (by rfl) cs _ HA.out.2 Tryz.underlying129 rfl (by rw [hc.out.len]; exact infoCall) ?_)
    | (go_at_call 140; (with_reducible refine (oword_is hc _).mono ?_); rintro e w1 ⟨rfl, hb⟩; have HB := Lib.hid (HA.out.1.trans (hb.mono HA.out.1.size)); clear hb))
  go_ret
  exact ⟨rfl, HB.out⟩
end
theorem all_one {cs : List Value} (h : ∀ v, v ∈ cs → v.oneCell' = true) : cs.toArray.all (·.oneCell') = true := all_oneCell_toArray h
set_option maxRecDepth 100000 in
set_option maxHeartbeats 1000000 in
theorem otold_nil (cs : List Value) (hl : cs.length = 19) (h1 : ∀ v, v ∈ cs → v.oneCell' = true) (w : World) : Calls Tryz.prog 136 #[.agg cs.toArray, .nilIface] w fun e w' => e = .returned (.agg cs.toArray) ∧ Below w.heap.size w w' := by
  have hsz : cs.toArray.size = 19 := by simp [hl]
  go_enter Tryz.func136, Tryz.ntmps136
  go_upto_region 1 with fail
  generalize hA : World.alloc w _ = wK
  have HK : Hid (Below w.heap.size w wK ∧ wK.rangeAt w.heap.size 0 cs ∧ wK.heap.size = w.heap.size + 1) := Lib.hid (by rw [← hA]; exact ⟨(Below.refl _ _).alloc (Nat.le_refl _) _, cbox _ _ _, by simp⟩)
  clear hA
  generalize hA : World.alloc wK _ = wA
  have HA : Hid (Below w.heap.size w wA ∧ World.there wA (w.heap.size + 1) 0 19 ∧ wA.rangeAt w.heap.size 0 cs) := Lib.hid (by
    rw [← hA, ← HK.out.2.2]
    refine ⟨HK.out.1.alloc HK.out.1.size _, nthere_new _ _ 19 (by rfl) _, fun j v hv => ?_⟩
    rw [World.cell?_alloc_past _ w.heap.size _ (by have := HK.out.2.2; omega)]
    exact HK.out.2.1 j v hv)
  clear hA
  go_wp2_with (first
    | (refine wpList_load_mid (by rfl) _ _ (by rfl) w.heap.size 0 (by rfl) cs _ HA.out.2.2 Tryz.underlying64 rfl (by rw [hl]; exact infoNote) ?_)
    | (refine wpList_store_mid (by rfl) _ _ _ (by rfl) (w.heap.size + 1) 0 cs.toArray (by rfl) (by rfl) (by rw [hsz]; exact HA.out.2.1) (by rw [hsz]; exact infoNote) (all_one h1) ?_))
  have HS : Hid (Below w.heap.size w (wA.setCells (w.heap.size + 1) 0 cs.toArray.toList) ∧ (wA.setCells (w.heap.size + 1) 0 cs.toArray.toList).rangeAt (w.heap.size + 1) 0 cs) := Lib.hid ⟨nbelow_cells HA.out.1 (Nat.le_succ _) _ _, World.rangeAt_setCells_same wA (w.heap.size + 1) 0 cs (by rw [hl]; exact HA.out.2.1)⟩
  have hld := nload hl HS.out.2
  refine bodyPost_ret (v := (.agg cs.toArray)) (by simp [results, Tryz.results136, Act.put, asAddr, hld]) rfl ⟨rfl, HS.out.1⟩
theorem note_put {w : World} {b : Nat} (h : w.rangeAt b 0 [.int .u32 0, .int .u32 0, .int .u32 0, .int .u32 0, .int .i64 0, .int .i64 0, .int .i64 0, .int .i64 0, .int .u32 0, .int .i64 0, .int .i64 0, .int .i64 0, .int .i64 0, .int .u32 0, .int .i64 0, .int .i64 0, .int .i64 0, .int .i64 0, .int .u32 0]) (x : Int) : (w.setCells b 1 [.int .u32 x]).rangeAt b 0 [.int .u32 0, .int .u32 x, .int .u32 0, .int .u32 0, .int .i64 0, .int .i64 0, .int .i64 0, .int .i64 0, .int .u32 0, .int .i64 0, .int .i64 0, .int .i64 0, .int .i64 0, .int .u32 0, .int .i64 0, .int .i64 0, .int .i64 0, .int .i64 0, .int .u32 0] := fun j v hv => by
  have e1 := CallC.cell h 1 (.int .u32 0) rfl
  show (w.setCell ⟨b, 1, none⟩ (.int .u32 x)).cell? _ = _
  by_cases hj : j = 1
  · subst hj
    simp at hv
    subst hv
    exact World.cell?_setCell_same _ _ _ e1
  · rw [World.cell?_setCell_other _ _ _ _ (by simp [hj])]
    refine h j v ?_
    rcases j with _ | _ | j
    · exact hv
    · exact absurd rfl hj
    · exact hv
set_option maxRecDepth 100000 in
set_option maxHeartbeats 1000000 in
theorem owords_one (x : Int) (g c : Nat) (w : World) (hx : w.cell? ⟨g, 0, none⟩ = some (.int .u32 x)) : Calls Tryz.prog 133 #[.slice (some ⟨g, 0, none⟩) 1 c] w fun e w' => e = .returned (Value.agg #[.int .u32 0, .int .u32 x, .int .u32 0, .int .u32 0, .int .i64 0, .int .i64 0, .int .i64 0, .int .i64 0, .int .u32 0, .int .i64 0, .int .i64 0, .int .i64 0, .int .i64 0, .int .u32 0, .int .i64 0, .int .i64 0, .int .i64 0, .int .i64 0, .int .u32 0]) ∧ Below w.heap.size w w' := by
  have HG := Lib.hid (⟨cell_lt hx, hx⟩ : g < w.heap.size ∧ w.cell? ⟨g, 0, none⟩ = some (.int .u32 x))
  clear hx
  go_enter Tryz.func133, Tryz.ntmps133
  go_upto_region 1 with fail
  generalize hA : World.alloc w _ = wA
  have HA : Hid (Below w.heap.size w wA ∧ World.there wA w.heap.size 0 19 ∧ w.heap.size < wA.heap.size) := Lib.hid (by rw [← hA]; exact ⟨(Below.refl _ _).alloc (Nat.le_refl _) _, nthere_new _ _ _ (by rfl) _, by simp⟩)
  clear hA
  go_upto_region 2 with (first
    | (go_at_call 124; (with_reducible refine (ofails_is 0 (by decide) (by decide) _).mono ?_); rintro e w2 ⟨rfl, hb⟩; have HB2 := Lib.hid hb; clear hb)
    | (refine wpList_store_mid (by rfl) _ _ _ (by rfl) w2.heap.size 0 ([.int .u32 0, .int .u32 0, .int .u32 0, .int .u32 0, .int .i64 0, .int .i64 0, .int .i64 0, .int .i64 0, .int .u32 0, .int .i64 0, .int .i64 0, .int .i64 0, .int .i64 0, .int .u32 0, .int .i64 0, .int .i64 0, .int .i64 0, .int .i64 0, .int .u32 0] : List Value).toArray (by rfl) (by rfl) (nthere_new _ _ 19 (by rfl) _) infoNote (note_one _ _ _ _ _ _ _ _ _ _ _ _ _ _ _ _ _ _ _) ?_))
  generalize hS : World.setCells _ w2.heap.size 0 _ = w3
  obtain ⟨nb, hnb⟩ : ∃ nb, nb = w2.heap.size := ⟨_, rfl⟩
  have HS : Hid (Below wA.heap.size wA w3 ∧ w3.rangeAt nb 0 [.int .u32 0, .int .u32 0, .int .u32 0, .int .u32 0, .int .i64 0, .int .i64 0, .int .i64 0, .int .i64 0, .int .u32 0, .int .i64 0, .int .i64 0, .int .i64 0, .int .i64 0, .int .u32 0, .int .i64 0, .int .i64 0, .int .i64 0, .int .i64 0, .int .u32 0] ∧ World.there w3 nb 0 19 ∧ wA.heap.size ≤ nb) := Lib.hid (by rw [← hS, hnb]; exact ⟨nbelow_cells (HB2.out.alloc HB2.out.size _) HB2.out.size _ _, World.rangeAt_setCells_same _ _ 0 [.int .u32 0, .int .u32 0, .int .u32 0, .int .u32 0, .int .i64 0, .int .i64 0, .int .i64 0, .int .i64 0, .int .u32 0, .int .i64 0, .int .i64 0, .int .i64 0, .int .i64 0, .int .u32 0, .int .i64 0, .int .i64 0, .int .i64 0, .int .i64 0, .int .u32 0] (nthere_new _ _ 19 (by rfl) _), World.there_setCells (nthere_new _ _ 19 (by rfl) _) _ _ _, HB2.out.size⟩)
  rw [← hnb]
  clear hS hnb
  have hsrc : ∀ j v, ([.int .u32 x] : List Value)[j]? = some v → w3.cell? ((⟨g, 0, none⟩ : Addr).add j) = some v := fun j v hv => by
    have hj : j = 0 := by
      rcases j with _ | j
      · rfl
      · simp at hv
    subst hj
    simp at hv
    subst hv
    have e1 := HS.out.1.cell (p := ⟨g, 0, none⟩) (Nat.lt_trans HG.out.1 HA.out.2.2)
    have e2 := HA.out.1.cell (p := ⟨g, 0, none⟩) HG.out.1
    simpa [Addr.add] using e1.trans (e2.trans HG.out.2)
  have hrun := run_copy_cells (P := Tryz.prog) w3 36 36 3 40 nb 1 3 3 ⟨g, 0, none⟩ 1 c [.int .u32 x] Tryz.underlying36 (by kernel_rfl) rfl hsrc (fun j hj => by have h := (HS.out.2.2.1 (1 + j) (by simp at hj; omega)).1; rw [Nat.zero_add] at h; exact h) (fun j hj => by have h := (HS.out.2.2.1 (1 + j) (by simp at hj; omega)).2; rw [Nat.zero_add] at h; exact h) (by simp [Value.oneCell'])
  go_upto_region 3 with fail
  clear hrun hsrc
  generalize hS : World.setCells w3 _ _ _ = w4
  have HS4 : Hid (Below wA.heap.size wA w4 ∧ w4.rangeAt nb 0 [.int .u32 0, .int .u32 x, .int .u32 0, .int .u32 0, .int .i64 0, .int .i64 0, .int .i64 0, .int .i64 0, .int .u32 0, .int .i64 0, .int .i64 0, .int .i64 0, .int .i64 0, .int .u32 0, .int .i64 0, .int .i64 0, .int .i64 0, .int .i64 0, .int .u32 0]) := Lib.hid (by rw [← hS]; exact ⟨nbelow_cells HS.out.1 HS.out.2.2.2 _ _, note_put HS.out.2.1 x⟩)
  clear hS
  have HT4 : Hid (World.there w4 w.heap.size 0 19 ∧ Below w.heap.size w w4) := Lib.hid ⟨fun j hj => ⟨by rw [HS4.out.1.cell (p := ⟨w.heap.size, 0 + j, none⟩) HA.out.2.2]; exact (HA.out.2.1 j hj).1, by rw [HS4.out.1.frozen (p := ⟨w.heap.size, 0 + j, none⟩) HA.out.2.2]; exact (HA.out.2.1 j hj).2⟩, HA.out.1.trans (HS4.out.1.mono (Nat.le_of_lt HA.out.2.2))⟩
  go_wp2_with (first
    | (refine wpList_load_mid (by rfl) _ _ (by rfl) nb 0 (by rfl) [.int .u32 0, .int .u32 x, .int .u32 0, .int .u32 0, .int .i64 0, .int .i64 0, .int .i64 0, .int .i64 0, .int .u32 0, .int .i64 0, .int .i64 0, .int .i64 0, .int .i64 0, .int .u32 0, .int .i64 0, .int .i64 0, .int .i64 0, .int .i64 0, .int .u32 0] _ HS4.out.2 Tryz.underlying64 rfl infoNote ?_)
    | (refine wpList_store_mid (by rfl) _ _ _ (by rfl) w.heap.size 0 ([.int .u32 0, .int .u32 x, .int .u32 0, .int .u32 0, .int .i64 0, .int .i64 0, .int .i64 0, .int .i64 0, .int .u32 0, .int .i64 0, .int .i64 0, .int .i64 0, .int .i64 0, .int .u32 0, .int .i64 0, .int .i64 0, .int .i64 0, .int .i64 0, .int .u32 0] : List Value).toArray (by rfl) (by rfl) HT4.out.1 infoNote (note_one _ _ _ _ _ _ _ _ _ _ _ _ _ _ _ _ _ _ _) ?_))
  generalize hS : World.setCells w4 _ _ _ = w5
  have H5 : Hid (Below w.heap.size w w5 ∧ w5.rangeAt w.heap.size 0 [.int .u32 0, .int .u32 x, .int .u32 0, .int .u32 0, .int .i64 0, .int .i64 0, .int .i64 0, .int .i64 0, .int .u32 0, .int .i64 0, .int .i64 0, .int .i64 0, .int .i64 0, .int .u32 0, .int .i64 0, .int .i64 0, .int .i64 0, .int .i64 0, .int .u32 0]) := Lib.hid (by rw [← hS]; exact ⟨nbelow_cells HT4.out.2 (Nat.le_refl _) _ _, World.rangeAt_setCells_same _ _ 0 [.int .u32 0, .int .u32 x, .int .u32 0, .int .u32 0, .int .i64 0, .int .i64 0, .int .i64 0, .int .i64 0, .int .u32 0, .int .i64 0, .int .i64 0, .int .i64 0, .int .i64 0, .int .u32 0, .int .i64 0, .int .i64 0, .int .i64 0, .int .i64 0, .int .u32 0] HT4.out.1⟩)
  have hld := nload rfl H5.out.2
  refine bodyPost_ret (v := (Value.agg #[.int .u32 0, .int .u32 x, .int .u32 0, .int .u32 0, .int .i64 0, .int .i64 0, .int .i64 0, .int .i64 0, .int .u32 0, .int .i64 0, .int .i64 0, .int .i64 0, .int .i64 0, .int .u32 0, .int .i64 0, .int .i64 0, .int .i64 0, .int .i64 0, .int .u32 0])) (by simp [results, Tryz.results133, Act.put, asAddr, hld]) rfl ⟨rfl, H5.out.1⟩
set_option maxRecDepth 100000 in
set_option maxHeartbeats 1000000 in
theorem owords_none (w : World) : Calls Tryz.prog 133 #[.slice none 0 0] w fun e w' => e = .returned (Value.agg #[.int .u32 0, .int .u32 0, .int .u32 0, .int .u32 0, .int .i64 0, .int .i64 0, .int .i64 0, .int .i64 0, .int .u32 0, .int .i64 0, .int .i64 0, .int .i64 0, .int .i64 0, .int .u32 0, .int .i64 0, .int .i64 0, .int .i64 0, .int .i64 0, .int .u32 0]) ∧ Below w.heap.size w w' := by
  go_enter Tryz.func133, Tryz.ntmps133
  go_upto_region 1 with fail
  generalize hA : World.alloc w _ = wA
  have HA : Hid (Below w.heap.size w wA ∧ World.there wA w.heap.size 0 19 ∧ w.heap.size < wA.heap.size) := Lib.hid (by rw [← hA]; exact ⟨(Below.refl _ _).alloc (Nat.le_refl _) _, nthere_new _ _ _ (by rfl) _, by simp⟩)
  clear hA
  go_upto_region 2 with (first
    | (go_at_call 124; (with_reducible refine (ofails_is 0 (by decide) (by decide) _).mono ?_); rintro e w2 ⟨rfl, hb⟩; have HB2 := Lib.hid hb; clear hb)
    | (refine wpList_store_mid (by rfl) _ _ _ (by rfl) w2.heap.size 0 ([.int .u32 0, .int .u32 0, .int .u32 0, .int .u32 0, .int .i64 0, .int .i64 0, .int .i64 0, .int .i64 0, .int .u32 0, .int .i64 0, .int .i64 0, .int .i64 0, .int .i64 0, .int .u32 0, .int .i64 0, .int .i64 0, .int .i64 0, .int .i64 0, .int .u32 0] : List Value).toArray (by rfl) (by rfl) (nthere_new _ _ 19 (by rfl) _) infoNote (note_one _ _ _ _ _ _ _ _ _ _ _ _ _ _ _ _ _ _ _) ?_))
  generalize hS : World.setCells _ w2.heap.size 0 _ = w3
  obtain ⟨nb, hnb⟩ : ∃ nb, nb = w2.heap.size := ⟨_, rfl⟩
  have HS : Hid (Below wA.heap.size wA w3 ∧ w3.rangeAt nb 0 [.int .u32 0, .int .u32 0, .int .u32 0, .int .u32 0, .int .i64 0, .int .i64 0, .int .i64 0, .int .i64 0, .int .u32 0, .int .i64 0, .int .i64 0, .int .i64 0, .int .i64 0, .int .u32 0, .int .i64 0, .int .i64 0, .int .i64 0, .int .i64 0, .int .u32 0] ∧ World.there w3 nb 0 19 ∧ wA.heap.size ≤ nb) := Lib.hid (by rw [← hS, hnb]; exact ⟨nbelow_cells (HB2.out.alloc HB2.out.size _) HB2.out.size _ _, World.rangeAt_setCells_same _ _ 0 [.int .u32 0, .int .u32 0, .int .u32 0, .int .u32 0, .int .i64 0, .int .i64 0, .int .i64 0, .int .i64 0, .int .u32 0, .int .i64 0, .int .i64 0, .int .i64 0, .int .i64 0, .int .u32 0, .int .i64 0, .int .i64 0, .int .i64 0, .int .i64 0, .int .u32 0] (nthere_new _ _ 19 (by rfl) _), World.there_setCells (nthere_new _ _ 19 (by rfl) _) _ _ _, HB2.out.size⟩)
  rw [← hnb]
  clear hS hnb
  have hrun := run_copy_none (P := Tryz.prog) w3 36 36 3 40 (some ⟨nb, 1, none⟩) none 3 3 0 0 Tryz.underlying36 (by kernel_rfl) rfl
  go_upto_region 3 with fail
  clear hrun
  have HS4 : Hid (Below wA.heap.size wA w3 ∧ w3.rangeAt nb 0 [.int .u32 0, .int .u32 0, .int .u32 0, .int .u32 0, .int .i64 0, .int .i64 0, .int .i64 0, .int .i64 0, .int .u32 0, .int .i64 0, .int .i64 0, .int .i64 0, .int .i64 0, .int .u32 0, .int .i64 0, .int .i64 0, .int .i64 0, .int .i64 0, .int .u32 0]) := Lib.hid ⟨HS.out.1, HS.out.2.1⟩
  have HT4 : Hid (World.there w3 w.heap.size 0 19 ∧ Below w.heap.size w w3) := Lib.hid ⟨fun j hj => ⟨by rw [HS4.out.1.cell (p := ⟨w.heap.size, 0 + j, none⟩) HA.out.2.2]; exact (HA.out.2.1 j hj).1, by rw [HS4.out.1.frozen (p := ⟨w.heap.size, 0 + j, none⟩) HA.out.2.2]; exact (HA.out.2.1 j hj).2⟩, HA.out.1.trans (HS4.out.1.mono (Nat.le_of_lt HA.out.2.2))⟩
  go_wp2_with (first
    | (refine wpList_load_mid (by rfl) _ _ (by rfl) nb 0 (by rfl) [.int .u32 0, .int .u32 0, .int .u32 0, .int .u32 0, .int .i64 0, .int .i64 0, .int .i64 0, .int .i64 0, .int .u32 0, .int .i64 0, .int .i64 0, .int .i64 0, .int .i64 0, .int .u32 0, .int .i64 0, .int .i64 0, .int .i64 0, .int .i64 0, .int .u32 0] _ HS4.out.2 Tryz.underlying64 rfl infoNote ?_)
    | (refine wpList_store_mid (by rfl) _ _ _ (by rfl) w.heap.size 0 ([.int .u32 0, .int .u32 0, .int .u32 0, .int .u32 0, .int .i64 0, .int .i64 0, .int .i64 0, .int .i64 0, .int .u32 0, .int .i64 0, .int .i64 0, .int .i64 0, .int .i64 0, .int .u32 0, .int .i64 0, .int .i64 0, .int .i64 0, .int .i64 0, .int .u32 0] : List Value).toArray (by rfl) (by rfl) HT4.out.1 infoNote (note_one _ _ _ _ _ _ _ _ _ _ _ _ _ _ _ _ _ _ _) ?_))
  generalize hS : World.setCells w3 _ _ _ = w5
  have H5 : Hid (Below w.heap.size w w5 ∧ w5.rangeAt w.heap.size 0 [.int .u32 0, .int .u32 0, .int .u32 0, .int .u32 0, .int .i64 0, .int .i64 0, .int .i64 0, .int .i64 0, .int .u32 0, .int .i64 0, .int .i64 0, .int .i64 0, .int .i64 0, .int .u32 0, .int .i64 0, .int .i64 0, .int .i64 0, .int .i64 0, .int .u32 0]) := Lib.hid (by rw [← hS]; exact ⟨nbelow_cells HT4.out.2 (Nat.le_refl _) _ _, World.rangeAt_setCells_same _ _ 0 [.int .u32 0, .int .u32 0, .int .u32 0, .int .u32 0, .int .i64 0, .int .i64 0, .int .i64 0, .int .i64 0, .int .u32 0, .int .i64 0, .int .i64 0, .int .i64 0, .int .i64 0, .int .u32 0, .int .i64 0, .int .i64 0, .int .i64 0, .int .i64 0, .int .u32 0] HT4.out.1⟩)
  have hld := nload rfl H5.out.2
  refine bodyPost_ret (v := (Value.agg #[.int .u32 0, .int .u32 0, .int .u32 0, .int .u32 0, .int .i64 0, .int .i64 0, .int .i64 0, .int .i64 0, .int .u32 0, .int .i64 0, .int .i64 0, .int .i64 0, .int .i64 0, .int .u32 0, .int .i64 0, .int .i64 0, .int .i64 0, .int .i64 0, .int .u32 0])) (by simp [results, Tryz.results133, Act.put, asAddr, hld]) rfl ⟨rfl, H5.out.1⟩
end Go.Proofs.YtncopdhhchmpeaaGreatDoor
namespace Go.Proofs.YtncopdhhchmpeaaGreatDoor
open Go.ChangeShapes Go.WideShapes Go.ChangeAt Go.RowKit
set_option linter.unusedVariables false
set_option linter.unusedSimpArgs false
theorem ofive {w : World} {b : Nat} {k0 k1 k2 k3 k4 : Int} (h : KeyC w b k0 k1 k2 k3 k4) : (World.cell? w ⟨b, 0, none⟩ = some (.int .i64 k0) ∧ World.cell? w ⟨b, 1, none⟩ = some (.int .i64 k1) ∧ World.cell? w ⟨b, 2, none⟩ = some (.int .i64 k2) ∧ World.cell? w ⟨b, 3, none⟩ = some (.int .i64 k3) ∧ World.cell? w ⟨b, 4, none⟩ = some (.int .u32 k4)) := ⟨h.c0, h.c1, h.c2, h.c3, h.c4⟩
section
variable {s : Nat}
set_option maxRecDepth 100000 in
set_option maxHeartbeats 2000000 in
theorem oseen_live (k0 k1 k2 k3 k4 : Int) (w : World) (hv : ∀ W, Below w.heap.size w W → Calls Tryz.prog 70 #[(Value.agg #[.int .i64 k0, .int .i64 k1, .int .i64 k2, .int .i64 k3, .int .u32 k4])] W fun e w' => e = .returned .nilIface ∧ Below W.heap.size W w')
    (hl : ∀ W, Below w.heap.size w W → Calls Tryz.prog 21 #[.pointer (some ⟨s, 0, none⟩), (Value.agg #[.int .i64 k0, .int .i64 k1, .int .i64 k2, .int .i64 k3, .int .u32 k4])] W fun e w' => e = .returned (.bool true) ∧ Below W.heap.size W w') :
    Calls Tryz.prog 23 #[.pointer (some ⟨s, 0, none⟩), (Value.agg #[.int .i64 k0, .int .i64 k1, .int .i64 k2, .int .i64 k3, .int .u32 k4])] w fun e w' => e = .returned (Value.agg #[.int .i64 k0, .int .i64 k1, .int .i64 k2, .int .i64 k3, .int .u32 k4]) ∧ Below w.heap.size w w' := by
  have HV := Lib.hid hv
  have HL := Lib.hid hl
  clear hv hl
  go_enter Tryz.func23, Tryz.ntmps23
  go_upto_region 1 with fail
  generalize hA : World.alloc w _ = wK
  obtain ⟨K, hK⟩ : ∃ K, K = w.heap.size := ⟨_, rfl⟩
  have HK : Hid (Below w.heap.size w wK ∧ KeyC wK K k0 k1 k2 k3 k4 ∧ wK.heap.size = K + 1 ∧ w.heap.size ≤ K + 1) := Lib.hid (by rw [← hA, hK]; exact ⟨(Below.refl _ _).alloc (Nat.le_refl _) _, KeyC.new w k0 k1 k2 k3 k4 _, by simp, Nat.le_succ _⟩)
  rw [← hK]
  clear hA hK
  generalize hA : World.alloc wK _ = wA
  obtain ⟨R, hR⟩ : ∃ R, R = K + 1 := ⟨_, rfl⟩
  have HA : Hid (Below w.heap.size w wA ∧ KeyC wA K k0 k1 k2 k3 k4 ∧ KeyC wA R 0 0 0 0 0 ∧ w.heap.size ≤ R) := Lib.hid (by rw [← hA, hR, ← HK.out.2.2.1]; exact ⟨HK.out.1.alloc HK.out.1.size _, HK.out.2.1.below ((Below.refl _ _).alloc (Nat.le_refl _) _), KeyC.new wK 0 0 0 0 0 _, HK.out.1.size⟩)
  rw [← hR]
  clear hA hR
  have q0 := HA.out.2.1.c0; have q1 := HA.out.2.1.c1; have q2 := HA.out.2.1.c2; have q3 := HA.out.2.1.c3; have q4 := HA.out.2.1.c4
  go_wp2_with (first
    | (go_at_call 70; (with_reducible refine (HV.out _ HA.out.1).mono ?_); rintro e w1 ⟨rfl, hb⟩; have H1 : Hid (Below w.heap.size w w1 ∧ KeyC w1 K k0 k1 k2 k3 k4 ∧ KeyC w1 R 0 0 0 0 0) := Lib.hid ⟨HA.out.1.trans (hb.mono HA.out.1.size), HA.out.2.1.below hb, HA.out.2.2.1.below hb⟩; clear hb q0 q1 q2 q3 q4; have q0 := H1.out.2.1.c0; have q1 := H1.out.2.1.c1; have q2 := H1.out.2.1.c2; have q3 := H1.out.2.1.c3; have q4 := H1.out.2.1.c4)
    | (go_at_call 21; (with_reducible refine (HL.out _ H1.out.1).mono ?_); rintro e w2 ⟨rfl, hb⟩; have H2 : Hid (Below w.heap.size w w2 ∧ KeyC w2 K k0 k1 k2 k3 k4 ∧ KeyC w2 R 0 0 0 0 0) := Lib.hid ⟨H1.out.1.trans (hb.mono H1.out.1.size), H1.out.2.1.below hb, H1.out.2.2.below hb⟩; clear hb q0 q1 q2 q3 q4; have q0 := H2.out.2.1.c0; have q1 := H2.out.2.1.c1; have q2 := H2.out.2.1.c2; have q3 := H2.out.2.1.c3; have q4 := H2.out.2.1.c4; have z0 := H2.out.2.2.c0; have z1 := H2.out.2.2.c1; have z2 := H2.out.2.2.c2; have z3 := H2.out.2.2.c3; have z4 := H2.out.2.2.c4; have f0 := H2.out.2.2.fr 0; have f1 := H2.out.2.2.fr 1; have f2 := H2.out.2.2.fr 2; have f3 := H2.out.2.2.fr 3; have f4 := H2.out.2.2.fr 4))
  have t := H2.out.2.2.set k0 k1 k2 k3 k4
  have t0 := t.c0
  have t1 := t.c1
  have t2 := t.c2
  have t3 := t.c3
  have t4 := t.c4
  refine bodyPost_ret (v := (Value.agg #[.int .i64 k0, .int .i64 k1, .int .i64 k2, .int .i64 k3, .int .u32 k4])) (by simp [results, Tryz.results23, go_sem, t0, t1, t2, t3, t4]) rfl ⟨rfl, ?_⟩
  have hR := HA.out.2.2.2
  exact ((((H2.out.1.setCell hR _).setCell hR _).setCell hR _).setCell hR _).setCell hR _
end
end Go.Proofs.YtncopdhhchmpeaaGreatDoor
namespace Go.Proofs.YtncopdhhchmpeaaGreatDoor
open Go.ChangeShapes Go.WideShapes Go.ChangeAt Go.RowKit
set_option linter.unusedVariables false
set_option linter.unusedSimpArgs false
section
variable {s m d t b f q : Nat} {st : Int}
end
end Go.Proofs.YtncopdhhchmpeaaGreatDoor
namespace Go.Proofs.YtncopdhhchmpeaaGreatDoor
open Go.ChangeShapes Go.WideShapes Go.ChangeAt Go.RowKit
set_option linter.unusedVariables false
/-- q of the chain charged. -/
def decq (tk : Nat → Int) (j q : Nat) : Nat → Int := fun i => if j < i + q ∧ i ≤ j then tk i - 1 else tk i
end Go.Proofs.YtncopdhhchmpeaaGreatDoor
namespace Go.Proofs.YtncopdhhchmpeaaGreatDoor
open Go.ChangeShapes Go.WideShapes Go.ChangeAt Go.RowKit
set_option linter.unusedVariables false
set_option linter.unusedSimpArgs false
theorem own_same {w w' : World} {b T s n g c : Nat} {l : List Value} (h : w.ownsRow b T s (.slice (some ⟨g, 0, none⟩) n c) n l) (hb : w'.heap[g]? = w.heap[g]?) : w'.ownsRow b T s (.slice (some ⟨g, 0, none⟩) n c) n l := by
  refine ⟨h.1, ?_⟩
  rcases h.2 with hn | ⟨g1, cap, cur, hv, hB, hg, rest⟩
  · exact .inl hn
  · refine .inr ⟨g1, cap, cur, hv, hB, ?_, rest⟩
    have : g1 = g := by injection hv with e1 _ _; injection e1 with e1; injection e1 with e1; exact e1.symm
    rw [this] at hg ⊢
    rw [hb]
    exact hg
theorem MtAt.low {w w' : World} {N base P p B G n c : Nat} {th : Nat → Bool} {vr pr tk : Nat → Int} (h : MtAt w base P p B G n c th vr pr tk) (hb : Below N w w') (h1 : P < N) (h2 : p < N) (h3 : B < N) (h4 : G < N) : MtAt w' base P p B G n c th vr pr tk :=
  ⟨Nat.lt_of_lt_of_le h.pl hb.size, h.pb, (World.cell?_of_block (a := ⟨P, 0, none⟩) (hb.block P h1)).trans h.f0, (World.cell?_of_block (a := ⟨P, 1, none⟩) (hb.block P h1)).trans h.f1, h.ar.same2 hb.size (hb.block p h2) (hb.block B h3), own_same h.row (hb.block G h4), h.n1, h.n2, h.n3, h.n4⟩
/-- A system whose meters are those. -/
structure MS (w : World) (L : BLoc) (X : SLoc) (th : Nat → Bool) (vr pr tk : Nat → Int) : Prop where
  b : SyB w X.s L.mb L.dP X.tP L.P X.fP X.q 0
  t : MtAt w X.tB X.tP X.tp X.tR X.tG X.tn X.tn th vr pr tk
  ne : X.s ≠ X.tR ∧ X.s ≠ X.tG
  n8 : X.tn = 8
theorem SysNew.ms {w0 w : World} {L : BLoc} {X : SLoc} (h : SysNew w0 w L X) (h8 : X.tn = 8) : MS w L X (fun _ => false) (fun _ => 0) (fun _ => 0) (fun _ => 0) := by
  refine ⟨h.b, h.t, ⟨fun e => ?_, fun e => ?_⟩, h8⟩
  · have h1 := h.t.ar.at0 0 (by omega)
    rw [← e] at h1
    have h2 := h.b.c0
    rw [Nat.zero_mul, h2] at h1
    simp at h1
  · have h1 := h.t.at0 0 (by omega)
    rw [← e] at h1
    have h2 := h.b.c0
    rw [Nat.zero_mul, h2] at h1
    simp at h1
section
variable {w w' : World} {L : BLoc} {X : SLoc} {th th' : Nat → Bool} {vr vr' pr pr' tk tk' : Nat → Int}
/-- Every block that it reaches lies below N. -/
structure MLt (N : Nat) (X : SLoc) : Prop where
  s : X.s < N
  P : X.tP < N
  p : X.tp < N
  R : X.tR < N
  G : X.tG < N
theorem MLt.mono {N M : Nat} (h : MLt N X) (hl : N ≤ M) : MLt M X := ⟨Nat.lt_of_lt_of_le h.s hl, Nat.lt_of_lt_of_le h.P hl, Nat.lt_of_lt_of_le h.p hl, Nat.lt_of_lt_of_le h.R hl, Nat.lt_of_lt_of_le h.G hl⟩
theorem MS.below (h : MS w L X th vr pr tk) (hb : Below w.heap.size w w') : MS w' L X th vr pr tk := ⟨h.b.below hb, h.t.below hb, h.ne, h.n8⟩
theorem MS.low {N : Nat} (h : MS w L X th vr pr tk) (hb : Below N w w') (hl : MLt N X) : MS w' L X th vr pr tk := ⟨h.b.same hb.size (hb.block X.s hl.s), h.t.low hb hl.P hl.p hl.R hl.G, h.ne, h.n8⟩
theorem MS.turn (h : MS w L X th vr pr tk) (ht : MtAt w' X.tB X.tP X.tp X.tR X.tG X.tn X.tn th' vr' pr' tk') (hb : PBelow w w' X.tR X.tG) : MS w' L X th' vr' pr' tk' := ⟨h.b.same hb.2.2.2.1 (hb.2.2.2.2 X.s h.b.lt h.ne.1 h.ne.2), ht, h.ne, h.n8⟩
end
/-- q of the chain charged. -/
def decx (z : Int) (tk : Nat → Int) (j q : Nat) : Nat → Int := fun i => if j < i + q ∧ i ≤ j then tk i - z else tk i
end Go.Proofs.YtncopdhhchmpeaaGreatDoor
