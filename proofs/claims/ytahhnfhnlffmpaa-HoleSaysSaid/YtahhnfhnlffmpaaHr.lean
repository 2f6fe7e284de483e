/-
  hole: a list of factories that was made here.
-/
import Derived.Test.YtahhnfhnlffmpaaHf
namespace Go.Proofs.Ytahhnfhnlffmpaa
open Go.ChangeShapes Go.WideShapes Go.ChangeAt Go.RowKit Go.Maps
set_option linter.unusedVariables false
def facCell (D : FD) (i j : Nat) : Value := if j = 0 then .int .i64 (D.id i) else if j = 1 then .int .i64 (D.ver i) else if j = 2 then .bool (D.sl i) else .slice (D.pa i) (D.ct i) (D.cp i)
def facRow (D : FD) (n : Nat) : List Value := (List.range (n * 4)).map fun q => facCell D (q / 4) (q % 4)
theorem facRow_len (D : FD) (n : Nat) : (facRow D n).length = n * 4 := by simp [facRow]
theorem facRow_at (D : FD) (n i j : Nat) (hi : i < n) (hj : j < 4) : (facRow D n)[i * 4 + j]? = some (facCell D i j) := by
  unfold facRow
  rw [List.getElem?_map, List.getElem?_range (by omega)]
  have e1 : (i * 4 + j) / 4 = i := by omega
  have e2 : (i * 4 + j) % 4 = j := by omega
  simp [e1, e2]
theorem facRow_ext {D : FD} {n : Nat} {l : List Value} (hl : l.length = n * 4) (h : ∀ i j, i < n → j < 4 → l[i * 4 + j]? = some (facCell D i j)) : l = facRow D n := by
  apply List.ext_getElem?
  intro q
  by_cases hq : q < n * 4
  · have e : q = q / 4 * 4 + q % 4 := by omega
    rw [e, h _ _ (by omega) (by omega), facRow_at _ _ _ _ (by omega) (by omega)]
  · rw [List.getElem?_eq_none (by omega), List.getElem?_eq_none (by rw [facRow_len]; omega)]
theorem facRow_congr {D D' : FD} {n : Nat} (h : ∀ i j, i < n → j < 4 → facCell D i j = facCell D' i j) : facRow D n = facRow D' n :=
  facRow_ext (facRow_len D n) fun i j hi hj => by rw [facRow_at D n i j hi hj, h i j hi hj]
theorem facRow_snoc (D : FD) (n : Nat) : facRow D (n + 1) = facRow D n ++ [.int .i64 (D.id n), .int .i64 (D.ver n), .bool (D.sl n), .slice (D.pa n) (D.ct n) (D.cp n)] := by
  symm
  refine facRow_ext (by simp [facRow_len]; omega) fun i j hi hj => ?_
  by_cases e : i = n
  · subst e
    rw [List.getElem?_append_right (by rw [facRow_len]; omega), facRow_len, show i * 4 + j - i * 4 = j by omega]
    have : j = 0 ∨ j = 1 ∨ j = 2 ∨ j = 3 := by omega
    rcases this with rfl | rfl | rfl | rfl <;> simp [facCell]
  · rw [List.getElem?_append_left (by rw [facRow_len]; omega), facRow_at _ _ _ _ (by omega) hj]
theorem facRow_set (D D' : FD) (n i j : Nat) (v : Value) (hi : i < n) (hj : j < 4) (hv : facCell D' i j = v) (ho : ∀ a b, a < n → b < 4 → ¬ (a = i ∧ b = j) → facCell D' a b = facCell D a b) : (facRow D n).set (i * 4 + j) v = facRow D' n := by
  refine facRow_ext (by rw [List.length_set, facRow_len]) fun a b ha hb => ?_
  rw [List.getElem?_set]
  by_cases e : i * 4 + j = a * 4 + b
  · have e1 : a = i := by omega
    have e2 : b = j := by omega
    subst e1 e2
    rw [if_pos rfl, if_pos (by rw [facRow_len]; omega), hv]
  · rw [if_neg e, facRow_at _ _ _ _ ha hb, ho a b ha hb (fun h => e (by rw [h.1, h.2]))]
def FD.part (D : FD) (i : Nat) : Value := .slice (D.pa i) (D.ct i) (D.cp i)
/-- Factories in a row of its own, each one's parts in theirs. -/
structure FlAt (w : World) (base : Nat) (v : Value) (D : FD) : Prop where
  row : w.ownsRow base 27 4 v D.n (facRow D D.n)
  part : ∀ i, i < D.n → w.ownsRow base 24 5 (D.part i) (D.ct i) (keyRow (D.key i) (List.range (D.ct i)))
  apart : ∀ i, i < D.n → ∀ g, (D.part i).ownBlock = some g → v.ownBlock ≠ some g
  dis : ∀ i k, i < D.n → k < D.n → i ≠ k → ∀ g, (D.part i).ownBlock = some g → (D.part k).ownBlock ≠ some g
section
variable {w w' w0 : World} {base : Nat} {v v' : Value} {D D' : FD}
theorem FlAt.below (h : FlAt w base v D) (hb : Below w.heap.size w w') : FlAt w' base v D := ⟨rowbelow h.row hb, fun i hi => rowbelow (h.part i hi) hb, h.apart, h.dis⟩
/-- Elsewhere was written. -/
theorem FlAt.far (h : FlAt w base v D) {row : Option Nat} (hg : w.grownBy w' row) (h1 : ∀ g, row = some g → g < base) : FlAt w' base v D := by
  have ne : ∀ (u : Value), (∀ g, u.ownBlock = some g → base ≤ g) → u.ownBlock = none ∨ u.ownBlock ≠ row := fun u hu => by
    cases hv : u.ownBlock with
    | none => exact .inl rfl
    | some g => exact .inr fun e => by have := h1 g e.symm; have := hu g hv; omega
  exact ⟨h.row.kept hg (ne v fun g hg => (h.row.lt g hg).1), fun i hi => (h.part i hi).kept hg (ne _ fun g hg => ((h.part i hi).lt g hg).1), h.apart, h.dis⟩
theorem FlAt.start (w : World) (base : Nat) (D : FD) (h : D.n = 0) : FlAt w base (.slice none 0 0) D := by
  refine ⟨?_, fun i hi => by omega, fun i hi => by omega, fun i k hi => by omega⟩
  rw [h]
  exact World.ownsRow_nil _ _ _ _
theorem FlAt.congr (h : FlAt w base v D) (hn : D'.n = D.n) (he : ∀ i, i < D.n → D'.id i = D.id i ∧ D'.ver i = D.ver i ∧ D'.sl i = D.sl i ∧ D'.pa i = D.pa i ∧ D'.ct i = D.ct i ∧ D'.cp i = D.cp i ∧ ∀ j, j < D.ct i → ∀ q, D'.key i j q = D.key i j q) : FlAt w base v D' := by
  have hp : ∀ i, i < D.n → D'.part i = D.part i := fun i hi => by obtain ⟨h1, h2, h3, h4, h5, h6, h7⟩ := he i hi; unfold FD.part; rw [h4, h5, h6]
  refine ⟨?_, fun i hi => ?_, fun i hi g hg => ?_, fun i k hi hk hik g hg => ?_⟩
  · rw [hn, facRow_congr (D' := D) (fun i j hi hj => by obtain ⟨h1, h2, h3, h4, h5, h6, h7⟩ := he i hi; unfold facCell; rw [h1, h2, h3, h4, h5, h6])]
    exact h.row
  · rw [hn] at hi
    have hr := h.part i hi
    obtain ⟨h1, h2, h3, h4, h5, h6, h7⟩ := he i hi
    rw [hp i hi, h5]
    have e : keyRow (D'.key i) (List.range (D.ct i)) = keyRow (D.key i) (List.range (D.ct i)) := by
      have e2 : ∀ m, m ≤ D.ct i → keyRow (D'.key i) (List.range m) = keyRow (D.key i) (List.range m) := by
        intro m
        induction m with
        | zero => intro _; rfl
        | succ m ih =>
          intro hm
          have hj : m < D.ct i := by omega
          rw [List.range_succ, keyRow_snoc, keyRow_snoc, ih (by omega)]
          unfold kcells
          rw [h7 m hj, h7 m hj, h7 m hj, h7 m hj, h7 m hj]
      exact e2 _ (Nat.le_refl _)
    rw [e]
    exact hr
  · rw [hn] at hi; rw [hp i hi] at hg; exact h.apart i hi g hg
  · rw [hn] at hi hk; rw [hp i hi] at hg; rw [hp k hk]; exact h.dis i k hi hk hik g hg
/-- One more. -/
theorem FlAt.push (h0 : FlAt w0 base v D) (hb : Below w0.heap.size w0 w) (hn : D'.n = D.n + 1) (he : ∀ i, i < D.n → D'.id i = D.id i ∧ D'.ver i = D.ver i ∧ D'.sl i = D.sl i ∧ D'.pa i = D.pa i ∧ D'.ct i = D.ct i ∧ D'.cp i = D.cp i ∧ D'.key i = D.key i)
    (hnew : w.ownsRow base 24 5 (D'.part D.n) (D'.ct D.n) (keyRow (D'.key D.n) (List.range (D'.ct D.n)))) (hlo : ∀ g, (D'.part D.n).ownBlock = some g → w0.heap.size ≤ g)
    (hrow : w'.ownsRow base 27 4 v' (D.n + 1) (facRow D D.n ++ [.int .i64 (D'.id D.n), .int .i64 (D'.ver D.n), .bool (D'.sl D.n), .slice (D'.pa D.n) (D'.ct D.n) (D'.cp D.n)])) (hg : w.grownBy w' v.ownBlock) (hloc : v'.ownBlock = v.ownBlock ∨ ∃ z, v'.ownBlock = some z ∧ w.heap.size ≤ z) : FlAt w' base v' D' := by
  have hp : ∀ i, i < D.n → D'.part i = D.part i := fun i hi => by obtain ⟨h1, h2, h3, h4, h5, h6, h7⟩ := he i hi; unfold FD.part; rw [h4, h5, h6]
  have h := h0.below hb
  have old : ∀ i, i < D.n → ∀ g, (D.part i).ownBlock = some g → g < w0.heap.size := fun i hi g hg => ((h0.part i hi).lt g hg).2
  have oldv : ∀ g, v.ownBlock = some g → g < w0.heap.size := fun g hg => (h0.row.lt g hg).2
  have ne : ∀ (u : Value), (∀ g, u.ownBlock = some g → v.ownBlock ≠ some g) → u.ownBlock = none ∨ u.ownBlock ≠ v.ownBlock := fun u hu => by
    cases hv : u.ownBlock with
    | none => exact .inl rfl
    | some g => exact .inr fun e => hu g hv e.symm
  refine ⟨?_, fun i hi => ?_, fun i hi g hgi => ?_, fun i k hi hk hik g hgi => ?_⟩
  · rw [hn, facRow_snoc, facRow_congr (D' := D) (fun i j hi hj => by obtain ⟨h1, h2, h3, h4, h5, h6, h7⟩ := he i hi; unfold facCell; rw [h1, h2, h3, h4, h5, h6])]
    exact hrow
  · by_cases e : i = D.n
    · subst e
      exact hnew.kept hg (ne _ fun g hgg hv => by have := hlo g hgg; have := oldv g hv; omega)
    · have hi' : i < D.n := by omega
      obtain ⟨h1, h2, h3, h4, h5, h6, h7⟩ := he i hi'
      rw [hp i hi', h5, h7]
      exact (h.part i hi').kept hg (ne _ fun g hgg => h.apart i hi' g hgg)
  · by_cases e : i = D.n
    · subst e
      have h1 := hlo g hgi
      rcases hloc with e2 | ⟨z, e2, hz⟩
      · rw [e2]; intro e3; have := oldv g e3; omega
      · rw [e2]
        intro e3
        injection e3 with e3
        have := (hnew.lt g hgi).2
        omega
    · have hi' : i < D.n := by omega
      rw [hp i hi'] at hgi
      rcases hloc with e2 | ⟨z, e2, hz⟩
      · rw [e2]; exact h.apart i hi' g hgi
      · rw [e2]
        intro e3
        injection e3 with e3
        have := ((h.part i hi').lt g hgi).2
        omega
  · by_cases e : i = D.n
    · subst e
      rw [hp k (by omega)]
      intro e3
      have := old k (by omega) g e3
      have := hlo g hgi
      omega
    · have hi' : i < D.n := by omega
      rw [hp i hi'] at hgi
      by_cases e2 : k = D.n
      · subst e2
        intro e3
        have := old i hi' g hgi
        have := hlo g e3
        omega
      · rw [hp k (by omega)]
        exact h.dis i k hi' (by omega) hik g hgi
/-- A cell of one is written, that is not its parts. -/
theorem FlAt.store {g c : Nat} (h : FlAt w base (.slice (some ⟨g, 0, none⟩) D.n c) D) (i j : Nat) (hi : i < D.n) (hj : j < 4) (u : Value) (hn : D'.n = D.n) (hu : facCell D' i j = u) (ho : ∀ a b, a < D.n → b < 4 → ¬ (a = i ∧ b = j) → facCell D' a b = facCell D a b) (hp : ∀ a, a < D.n → D'.part a = D.part a ∧ D'.ct a = D.ct a ∧ D'.key a = D.key a) :
    FlAt (w.setCell ⟨g, i * 4 + j, none⟩ u) base (.slice (some ⟨g, 0, none⟩) D'.n c) D' ∧ w.grownBy (w.setCell ⟨g, i * 4 + j, none⟩ u) (some g) := by
  have hs := World.ownsRow.stored h.row (i * 4 + j) u
  rw [facRow_set D D' D.n i j u hi hj hu ho] at hs
  refine ⟨⟨by rw [hn]; exact hs.1, fun a ha => ?_, fun a ha g' hg' => ?_, fun a k ha hk hak g' hg' => ?_⟩, hs.2⟩
  · rw [hn] at ha
    obtain ⟨h1, h2, h3⟩ := hp a ha
    rw [h1, h2, h3]
    refine (h.part a ha).kept hs.2 ?_
    cases hv : (D.part a).ownBlock with
    | none => exact .inl rfl
    | some g' => exact .inr fun e => h.apart a ha g' hv e.symm
  · rw [hn] at ha; rw [(hp a ha).1] at hg'; rw [hn]; exact h.apart a ha g' hg'
  · rw [hn] at ha hk; rw [(hp a ha).1] at hg'; rw [(hp k hk).1]; exact h.dis a k ha hk hak g' hg'
/-- One's parts have grown, elsewhere or in place: then its slice is written. -/
theorem FlAt.parts {g c : Nat} (h : FlAt w base (.slice (some ⟨g, 0, none⟩) D.n c) D) (i : Nat) (hi : i < D.n) (hn : D'.n = D.n) (hnew : w'.ownsRow base 24 5 (D'.part i) (D'.ct i) (keyRow (D'.key i) (List.range (D'.ct i)))) (hg : w.grownBy w' (D.part i).ownBlock) (hloc : (D'.part i).ownBlock = (D.part i).ownBlock ∨ ∃ z, (D'.part i).ownBlock = some z ∧ w.heap.size ≤ z)
    (ho : ∀ a b, a < D.n → b < 4 → ¬ (a = i ∧ b = 3) → facCell D' a b = facCell D a b) (hp : ∀ a, a < D.n → a ≠ i → D'.part a = D.part a ∧ D'.ct a = D.ct a ∧ D'.key a = D.key a) :
    FlAt (w'.setCell ⟨g, i * 4 + 3, none⟩ (D'.part i)) base (.slice (some ⟨g, 0, none⟩) D'.n c) D' ∧ w'.grownBy (w'.setCell ⟨g, i * 4 + 3, none⟩ (D'.part i)) (some g) := by
  have hgl : g < w.heap.size := (h.row.lt g rfl).2
  have hrow : w'.ownsRow base 27 4 (.slice (some ⟨g, 0, none⟩) D.n c) D.n (facRow D D.n) := h.row.kept hg (.inr fun e => h.apart i hi g e.symm rfl)
  have hs := World.ownsRow.stored hrow (i * 4 + 3) (D'.part i)
  rw [facRow_set D D' D.n i 3 (D'.part i) hi (by decide) (by simp [facCell, FD.part]) ho] at hs
  have ga : ∀ g', (D'.part i).ownBlock = some g' → g' ≠ g := by
    intro g' hg' e
    rcases hloc with e2 | ⟨z, e2, hz⟩
    · rw [e2] at hg'; exact h.apart i hi g' hg' (by rw [e]; rfl)
    · rw [e2] at hg'; injection hg' with hg'; omega
  refine ⟨⟨by rw [hn]; exact hs.1, fun a ha => ?_, fun a ha g' hg' => ?_, fun a k ha hk hak g' hg' => ?_⟩, hs.2⟩
  · rw [hn] at ha
    by_cases e : a = i
    · subst e
      refine hnew.kept hs.2 ?_
      cases hv : (D'.part a).ownBlock with
      | none => exact .inl rfl
      | some g' => exact .inr fun e => ga g' hv (by injection e)
    · obtain ⟨h1, h2, h3⟩ := hp a ha e
      rw [h1, h2, h3]
      refine ((h.part a ha).kept hg ?_).kept hs.2 ?_
      · cases hv : (D.part a).ownBlock with
        | none => exact .inl rfl
        | some g' => exact .inr fun e2 => h.dis a i ha hi e g' hv e2.symm
      · cases hv : (D.part a).ownBlock with
        | none => exact .inl rfl
        | some g' => exact .inr fun e2 => h.apart a ha g' hv e2.symm
  · rw [hn] at ha
    rw [hn]
    by_cases e : a = i
    · subst e
      exact fun e2 => ga g' hg' (by simp [Value.ownBlock] at e2; exact e2.symm)
    · rw [(hp a ha e).1] at hg'; exact h.apart a ha g' hg'
  · rw [hn] at ha hk
    have dj : ∀ b, b < D.n → b ≠ i → ∀ z, (D.part b).ownBlock = some z → (D'.part i).ownBlock ≠ some z := by
      intro b hb hbi z hz e
      rcases hloc with e2 | ⟨y, e2, hy⟩
      · rw [e2] at e; exact h.dis b i hb hi hbi z hz e
      · rw [e2] at e; injection e with e; have := ((h.part b hb).lt z hz).2; omega
    by_cases e : a = i
    · subst e
      have e2 : k ≠ a := Ne.symm hak
      rw [(hp k hk e2).1]
      exact fun e3 => dj k hk e2 g' e3 hg'
    · rw [(hp a ha e).1] at hg'
      by_cases e2 : k = i
      · subst e2; exact dj a ha e g' hg'
      · rw [(hp k hk e2).1]; exact h.dis a k ha hk hak g' hg'
/-- What a made list is for look. -/
theorem keyRow_at (key : Nat → Nat → Int) : ∀ (n i : Nat), i < n → ∀ j v, (kcells key i)[j]? = some v → (keyRow key (List.range n))[i * 5 + j]? = some v
  | 0, i, h, _, _, _ => by omega
  | n + 1, i, h, j, v, hv => by
    have hl : ∀ m, (keyRow key (List.range m)).length = m * 5 := by
      intro m
      induction m with
      | zero => rfl
      | succ m ih => rw [List.range_succ, keyRow_snoc, List.length_append, ih]; simp [kcells]; omega
    have hj : j < 5 := by have := (List.getElem?_eq_some_iff.1 hv).1; simpa [kcells] using this
    rw [List.range_succ, keyRow_snoc]
    by_cases e : i = n
    · subst e
      rw [List.getElem?_append_right (by rw [hl]; omega), hl, show i * 5 + j - i * 5 = j by omega, hv]
    · rw [List.getElem?_append_left (by rw [hl]; omega)]
      exact keyRow_at key n i (by omega) j v hv
theorem kys_of_row {w : World} {base n c : Nat} {a : Option Addr} {key : Nat → Nat → Int} (h : w.ownsRow base 24 5 (.slice a n c) n (keyRow key (List.range n))) (hw : ∀ j, j < n → wfH (key j 1) ∧ wfH (key j 2)) : KysAt w a n key := by
  intro j hj
  rcases h.2 with ⟨e, e2⟩ | ⟨g, cap, cur, e, hB, hg, rest⟩
  · omega
  · simp only [Value.slice.injEq] at e
    obtain ⟨rfl, _, rfl⟩ := e
    have hl : g < w.heap.size := (h.lt g rfl).2
    have cell : ∀ q v, (kcells key j)[q]? = some v → w.cell? ⟨g, 0 + j * 5 + q, none⟩ = some v := fun q v hv => by
      have hq : q < 5 := by have := (List.getElem?_eq_some_iff.1 hv).1; simpa [kcells] using this
      rw [show 0 + j * 5 + q = j * 5 + q by omega, h.cellAt (j * 5 + q) (by omega), keyRow_at key n j hj q v hv]
    refine ⟨⟨g, 0, none⟩, rfl, ?_, ?_, hw j hj⟩
    · rw [Addr.add_lit]; exact hl
    · rw [Addr.add_lit]
      exact ⟨by have := cell 0 _ rfl; simpa using this, cell 1 _ rfl, cell 2 _ rfl, cell 3 _ rfl, cell 4 _ rfl⟩
theorem FlAt.fac (h : FlAt w base v D) (hw : ∀ i, i < D.n → wfH (D.id i) ∧ wfH (D.ver i) ∧ ∀ j, j < D.ct i → wfH (D.key i j 1) ∧ wfH (D.key i j 2)) (few : D.n ≤ 256) (few2 : ∀ i, D.ct i ≤ 64) : ∃ a c, v = .slice a D.n c ∧ FacAt w a D := by
  obtain ⟨a, c, hv⟩ := own_shape h.row
  refine ⟨a, c, hv, ⟨fun i hi => ?_, fun i hi => ?_, few, few2⟩⟩
  · have hr := h.row
    rcases hr.2 with ⟨e, e2⟩ | ⟨g, cap, cur, e, hB, hg, rest⟩
    · omega
    · rw [hv] at e
      simp only [Value.slice.injEq] at e
      obtain ⟨rfl, _, rfl⟩ := e
      rw [hv] at hr
      have hl : g < w.heap.size := (hr.lt g rfl).2
      have cell : ∀ q, q < 4 → w.cell? ⟨g, 0 + i * 4 + q, none⟩ = some (facCell D i q) := fun q hq => by
        rw [show 0 + i * 4 + q = i * 4 + q by omega, hr.cellAt (i * 4 + q) (by omega), facRow_at D D.n i q hi hq]
      refine ⟨⟨g, 0, none⟩, rfl, ?_, ?_, (hw i hi).1, (hw i hi).2.1⟩
      · rw [Addr.add_lit]; exact hl
      · rw [Addr.add_lit]
        exact ⟨by have := cell 0 (by decide); simpa [facCell] using this, by simpa [facCell] using cell 1 (by decide), by simpa [facCell] using cell 2 (by decide), by simpa [facCell] using cell 3 (by decide)⟩
  · exact kys_of_row (h.part i hi) (hw i hi).2.2
end
end Go.Proofs.Ytahhnfhnlffmpaa
