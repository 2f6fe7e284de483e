/-
  HoleSays: what came in; which keys are sensory.
-/
import Derived.Test.YtahhnfhnlffmpaaHt
import Derived.Test.YtahhnfhnlffmpaaReads
namespace Go.Proofs.Ytahhnfhnlffmpaa
open Go.ChangeShapes Go.WideShapes Go.ChangeAt Go.RowKit Go.Maps
set_option linter.unusedVariables false
/-- Is a key that may be sensory? Its kind and its rights tell. -/
def sensB (k0 k3 : Int) : Bool := if k0 = 2 ∨ k0 = 3 then decide (k3 = orI k3 5) else decide (k0 = 0 ∨ k0 = 1 ∨ k0 = 12 ∨ k0 = 14)
theorem sens_is (k0 k1 k2 k3 k4 : Int) (h8 : In8 k3) : Sens k0 k1 k2 k3 k4 (sensB k0 k3) ∧ RSens k0 k1 k2 k3 k4 (sensB k0 k3) := by
  by_cases hm : k0 = 2 ∨ k0 = 3
  · have hW : Wk [k0, k1, k2, k3, k4] [k0, k1, k2, orI k3 5, k4] := .inl ⟨hm, rfl⟩
    by_cases he : k3 = orI k3 5
    · have hs : sensB k0 k3 = true := by unfold sensB; rw [if_pos hm]; exact decide_eq_true he
      have hW2 : Wk [k0, k1, k2, k3, k4] [k0, k1, k2, k3, k4] := by rw [← he] at hW; exact hW
      rw [hs]
      exact ⟨fun W => sensory_yes _ _ _ _ _ (Lib.hid hW2) W, fun W => rsensory_any _ _ _ _ _ _ _ _ _ _ true h8 (Lib.hid hW2) (Lib.hid (by simp [sameB])) W⟩
    · have hs : sensB k0 k3 = false := by unfold sensB; rw [if_pos hm]; exact decide_eq_false he
      rw [hs]
      exact ⟨fun W => sensory_no _ _ _ _ _ _ _ _ _ _ (Lib.hid hW) (.inr ⟨rfl, rfl, rfl, by simpa using he⟩) W, fun W => rsensory_any _ _ _ _ _ _ _ _ _ _ false h8 (Lib.hid hW) (Lib.hid (by simp [sameB, Ne.symm he])) W⟩
  · by_cases hv : k0 = 0 ∨ k0 = 1 ∨ k0 = 12 ∨ k0 = 14
    · have hs : sensB k0 k3 = true := by unfold sensB; rw [if_neg hm]; exact decide_eq_true hv
      have hW : Wk [k0, k1, k2, k3, k4] [k0, k1, k2, k3, k4] := .inr (.inl ⟨hv, rfl⟩)
      rw [hs]
      exact ⟨fun W => sensory_yes _ _ _ _ _ (Lib.hid hW) W, fun W => rsensory_any _ _ _ _ _ _ _ _ _ _ true h8 (Lib.hid hW) (Lib.hid (by simp [sameB])) W⟩
    · have hs : sensB k0 k3 = false := by unfold sensB; rw [if_neg hm]; exact decide_eq_false hv
      have hW : Wk [k0, k1, k2, k3, k4] [0, 0, 0, 0, 0] := .inr (.inr ⟨⟨fun e => hv (.inl e), fun e => hv (.inr (.inl e)), fun e => hm (.inl e), fun e => hm (.inr e), fun e => hv (.inr (.inr (.inl e))), fun e => hv (.inr (.inr (.inr e)))⟩, rfl⟩)
      have h0 : ¬ k0 = 0 := fun e => hv (.inl e)
      rw [hs]
      exact ⟨fun W => sensory_no _ _ _ _ _ _ _ _ _ _ (Lib.hid hW) (.inl (by simpa using h0)) W, fun W => rsensory_any _ _ _ _ _ _ _ _ _ _ false h8 (Lib.hid hW) (Lib.hid (by simp [sameB, Ne.symm h0])) W⟩
theorem sens_nine (D : FD) (kk : Nat → Int) : NineOk D (sensB (kk 0) (kk 3)) kk := by
  intro i hi
  unfold FD.tgt at hi
  split at hi
  · rename_i h9
    rw [h9]
    simp [sensB]
  · cases hi
theorem cell_in' {w : World} {a : Addr} {v : Value} (h : w.cell? a = some v) : a.block < w.heap.size := by
  rcases Nat.lt_or_ge a.block w.heap.size with h' | h'
  · exact h'
  · simp [World.cell?, Array.getElem?_eq_none h'] at h
theorem add_on (ad : Addr) (i j : Nat) : ad.add (i + (j + 1)) = ⟨(ad.add i).block, (ad.add i).off + (j + 1), none⟩ := by
  rw [← Go.Deep.add_add]
  rfl
/-- A row of keys that came in. -/
structure KysR (w : World) (pa : Option Addr) (ct cp : Nat) (key : Nat → Nat → Int) : Prop where
  at_ : KysAt w pa ct key
  gk : ∀ j, j < ct → key j 4 ≤ 4294967295
  mx : ct ≤ maxLen
  nl : pa = none → ct = 0 ∧ cp = 0
theorem wf_u32 {x : Int} (h : (Lit.int .u32 x).wf = true) : x ≤ 4294967295 := by
  simp [Lit.wf, IntKind.min, IntKind.max, IntKind.signed, IntKind.bits] at h
  omega
theorem keys_read {w : World} {pa : Option Addr} {ct cp : Nat} (h : Reads Try.prog w 25 [.slice pa ct cp]) : ∃ key, KysR w pa ct cp key := by
  obtain ⟨zs, hz⟩ := h.rows (ks := [.i64, .i64, .i64, .i64, .u32]) Try.underlying25 Try.underlying24 (by kernel_rfl) (by kernel_rfl) rfl (by
    intro j f hj
    match j, hj with
    | 0, hj => exact ⟨_, rfl, by cases hj; exact Try.underlying3⟩
    | 1, hj => exact ⟨_, rfl, by cases hj; exact Try.underlying3⟩
    | 2, hj => exact ⟨_, rfl, by cases hj; exact Try.underlying3⟩
    | 3, hj => exact ⟨_, rfl, by cases hj; exact Try.underlying3⟩
    | 4, hj => exact ⟨_, rfl, by cases hj; exact Try.underlying22⟩
    | (j + 5), hj => simp at hj)
  rcases hz with ⟨rfl, rfl, rfl, rfl⟩ | ⟨x, rfl, hl, hm, hzl, hc⟩
  · exact ⟨fun _ _ => 0, fun j hj => by omega, fun j hj => by omega, Nat.zero_le _, fun _ => ⟨rfl, rfl⟩⟩
  · have cell : ∀ j, j < ct → ∀ q k, [IntKind.i64, .i64, .i64, .i64, .u32][q]? = some k → w.cell? (x.add (j * 5 + q)) = some (.int k ((zs.getD j []).getD q 0)) ∧ (Lit.int k ((zs.getD j []).getD q 0)).wf = true := fun j hj q k hk => hc j (by omega) q k hk
    refine ⟨fun j q => (zs.getD j []).getD q 0, fun j hj => ⟨x, rfl, ?_, ⟨?_, ?_, ?_, ?_, ?_⟩, ?_, ?_⟩, fun j hj => ?_, by omega, fun h => by cases h⟩
    · have h0 := (cell j hj 0 _ rfl).1
      rw [Nat.add_zero] at h0
      exact cell_in' h0
    · exact (cell j hj 0 _ rfl).1
    · have h1 := (cell j hj 1 _ rfl).1; rwa [add_on x (j * 5) 0] at h1
    · have h1 := (cell j hj 2 _ rfl).1; rwa [add_on x (j * 5) 1] at h1
    · have h1 := (cell j hj 3 _ rfl).1; rwa [add_on x (j * 5) 2] at h1
    · have h1 := (cell j hj 4 _ rfl).1; rwa [add_on x (j * 5) 3] at h1
    · exact (cell j hj 1 _ rfl).2
    · exact (cell j hj 2 _ rfl).2
    · exact wf_u32 (cell j hj 4 _ rfl).2
/-- Factories that came in. -/
structure FacR (w : World) (a : Option Addr) (D : FD) : Prop where
  row : ∀ i, i < D.n → ∃ ad, a = some ad ∧ (ad.add (i * 4)).block < w.heap.size ∧ InR w (ad.add (i * 4)) (D.id i) (D.ver i) (D.sl i) (.slice (D.pa i) (D.ct i) (D.cp i)) ∧ wfH (D.id i) ∧ wfH (D.ver i)
  part : ∀ i, i < D.n → KysR w (D.pa i) (D.ct i) (D.cp i) (D.key i)
  mx : D.n ≤ maxLen
  out : ∀ i, ¬ i < D.n → D.ct i = 0
theorem FacR.below {w w' : World} {a : Option Addr} {D : FD} (h : FacR w a D) (hb : Below w.heap.size w w') : FacR w' a D :=
  ⟨fun i hi => by
    obtain ⟨ad, h1, h2, h3, h4⟩ := h.row i hi
    exact ⟨ad, h1, Nat.lt_of_lt_of_le h2 hb.size, h3.below hb h2, h4⟩, fun i hi => ⟨(h.part i hi).at_.below hb, (h.part i hi).gk, (h.part i hi).mx, (h.part i hi).nl⟩, h.mx, h.out⟩
/-- Few, of few parts that may be. -/
def LightP (D : FD) : Prop := D.n ≤ 20 ∧ ∀ i, i < D.n → D.ct i ≤ 8 ∧ ∀ j, j < D.ct i → codeOf (D.key i j 0) (D.key i j 1) (D.key i j 2) (D.key i j 3) (D.key i j 4) = 0
/-- One factory. -/
structure OneF where
  id : Int
  ver : Int
  sl : Bool
  pa : Option Addr
  ct : Nat
  cp : Nat
  key : Nat → Nat → Int
theorem fac_read {w : World} {cs : List Value} (hr : Reads Try.prog w 27 cs) : ∃ f : OneF, cs = [.int .i64 f.id, .int .i64 f.ver, .bool f.sl, .slice f.pa f.ct f.cp] ∧ wfH f.id ∧ wfH f.ver ∧ KysR w f.pa f.ct f.cp f.key := by
  have e3 : Try.prog.cellsOf 27 = 4 := by kernel_rfl
  obtain ⟨hl, _⟩ := hr.struct Try.underlying27
  rw [e3] at hl
  obtain ⟨v0, g0, r0⟩ := hr.cell Try.underlying27 0 _ rfl (by kernel_rfl) (by rw [e3]; decide)
  obtain ⟨v1, g1, r1⟩ := hr.cell Try.underlying27 1 _ rfl (by kernel_rfl) (by rw [e3]; decide)
  obtain ⟨v2, g2, r2⟩ := hr.cell Try.underlying27 2 _ rfl (by kernel_rfl) (by rw [e3]; decide)
  obtain ⟨v3, g3, r3⟩ := hr.cell Try.underlying27 3 _ rfl (by kernel_rfl) (by rw [e3]; decide)
  obtain ⟨id, e0, w0⟩ := r0.int Try.underlying3
  obtain ⟨ver, e1, w1⟩ := r1.int Try.underlying3
  obtain ⟨sl, e2⟩ := r2.bool Try.underlying4
  obtain ⟨a, m, c, rfl⟩ := r3.slice' Try.underlying25
  obtain ⟨key, hk⟩ := keys_read r3
  simp only [List.cons.injEq, and_true] at e0 e1 e2
  subst e0 e1 e2
  refine ⟨⟨id, ver, sl, a, m, c, key⟩, ?_, w0, w1, hk⟩
  match cs, hl with
  | [c0, c1, c2, c3], _ =>
    simp at g0 g1 g2 g3
    rw [g0, g1, g2, g3]
theorem facs_read {w : World} {a : Option Addr} {len cap : Nat} (h : Reads Try.prog w 28 [.slice a len cap]) : ∃ D : FD, D.n = len ∧ FacR w a D := by
  have e3 : Try.prog.cellsOf 27 = 4 := by kernel_rfl
  rcases h.slice Try.underlying28 with ⟨rfl, rfl, rfl⟩ | ⟨x, rfl, hl, hm, hall⟩
  · exact ⟨⟨0, fun _ => 0, fun _ => 0, fun _ => false, fun _ => none, fun _ => 0, fun _ => 0, fun _ _ _ => 0⟩, rfl, fun i hi => by simp at hi, fun i hi => by simp at hi, Nat.zero_le _, fun i hi => rfl⟩
  · have one : ∀ i, ∃ f : OneF, (i < len → (x.add (i * 4)).block < w.heap.size ∧ InR w (x.add (i * 4)) f.id f.ver f.sl (.slice f.pa f.ct f.cp) ∧ wfH f.id ∧ wfH f.ver ∧ KysR w f.pa f.ct f.cp f.key) ∧ (¬ i < len → f.ct = 0) := by
      intro i
      by_cases hi : i < len
      · obtain ⟨cs, hcl, hat, hr⟩ := hall i (by omega)
        rw [e3] at hcl hat
        obtain ⟨f, rfl, h1, h2, h3⟩ := fac_read hr
        have a0 := hat 0 _ rfl
        have a1 := hat 1 _ rfl
        have a2 := hat 2 _ rfl
        have a3 := hat 3 _ rfl
        rw [Nat.add_zero] at a0
        rw [add_on x (i * 4) 0] at a1
        rw [add_on x (i * 4) 1] at a2
        rw [add_on x (i * 4) 2] at a3
        exact ⟨f, fun _ => ⟨cell_in' a0, ⟨a0, a1, a2, a3⟩, h1, h2, h3⟩, fun h => absurd hi h⟩
      · exact ⟨⟨0, 0, false, none, 0, 0, fun _ _ => 0⟩, fun h => absurd h hi, fun _ => rfl⟩
    obtain ⟨f, hf⟩ : ∃ f : Nat → OneF, ∀ i, (i < len → (x.add (i * 4)).block < w.heap.size ∧ InR w (x.add (i * 4)) (f i).id (f i).ver (f i).sl (.slice (f i).pa (f i).ct (f i).cp) ∧ wfH (f i).id ∧ wfH (f i).ver ∧ KysR w (f i).pa (f i).ct (f i).cp (f i).key) ∧ (¬ i < len → (f i).ct = 0) := ⟨fun i => Classical.choose (one i), fun i => Classical.choose_spec (one i)⟩
    refine ⟨⟨len, fun i => (f i).id, fun i => (f i).ver, fun i => (f i).sl, fun i => (f i).pa, fun i => (f i).ct, fun i => (f i).cp, fun i => (f i).key⟩, rfl, fun i hi => ⟨x, rfl, ((hf i).1 hi).1, ((hf i).1 hi).2.1, ((hf i).1 hi).2.2.1, ((hf i).1 hi).2.2.2.1⟩, fun i hi => ((hf i).1 hi).2.2.2.2, ?_, fun i hi => (hf i).2 hi⟩
    show len ≤ maxLen
    omega
end Go.Proofs.Ytahhnfhnlffmpaa
