import Derived.Test.YtncopdhhchmpeaaGreatDoorKeyWays
namespace Go.Proofs.YtncopdhhchmpeaaGreatDoor
open Go.ChangeShapes Go.WideShapes Go.ChangeAt Go.RowKit
set_option linter.unusedVariables false
def hidOf (k : Int) : Int := if 0 < placesOf k then placesOf k - 1 else 0
def hverOf (k : Int) : Int := if 0 < placesOf k then 1048575 else 0
def hrOf (k : Int) : Int := if (k == 2 || k == 3) = true then 7 else 0
/-- Is this a right key? -/
def rightB (k0 k1 k2 k3 k4 : Int) : Bool := wB k0 14 && (wB k1 (hidOf k0) && (wB k2 (hverOf k0) && (wB k3 (hrOf k0) && decide (k4 ≤ dataMost k0))))
/-- What the program says of a key: nothing, or which error. -/
def kErr (vs vr : Value) (k0 k1 k2 k3 k4 : Int) : Value := if rightB k0 k1 k2 k3 k4 = true then .nilIface else if wB k0 14 = true then vr else vs
theorem placesOf_le (k : Int) : placesOf k ≤ 256 := by unfold placesOf; repeat' split
                                                       all_goals omega
theorem placesOf_ge (k : Int) : 0 ≤ placesOf k := by unfold placesOf; repeat' split
                                                     all_goals omega
/-- The two errors lie in their variables. -/
def ErrsAt (vs vr : Value) (w : World) : Prop := w.cell? ⟨6, 0, none⟩ = some vs ∧ w.cell? ⟨1, 0, none⟩ = some vr ∧ 6 < w.heap.size ∧ 1 < w.heap.size
theorem ErrsAt.below {vs vr : Value} {w w' : World} (h : ErrsAt vs vr w) (hb : Below w.heap.size w w') : ErrsAt vs vr w' :=
  ⟨(hb.cell (p := ⟨6, 0, none⟩) h.2.2.1).trans h.1, (hb.cell (p := ⟨1, 0, none⟩) h.2.2.2).trans h.2.1, by have := h.2.2.1; have := hb.size; omega, by have := h.2.2.2; have := hb.size; omega⟩
theorem kvalid_any (k0 k1 k2 k3 k4 : Int) (vs vr : Value) (w : World) (hE : ErrsAt vs vr w) :
    Calls Tryz.prog 70 #[(Value.agg #[.int .i64 k0, .int .i64 k1, .int .i64 k2, .int .i64 k3, .int .u32 k4])] w fun e w' => e = .returned (kErr vs vr k0 k1 k2 k3 k4) ∧ Below w.heap.size w w' := by
  obtain ⟨hs, hr, ls, lr⟩ := hE
  by_cases b0 : wB k0 14 = true
  rotate_left
  · have e : kErr vs vr k0 k1 k2 k3 k4 = vs := by simp [kErr, rightB, b0]
    rw [e]
    exact kvalid_shape k0 k1 k2 k3 k4 vs (Lib.hid (by simpa [wB] using b0)) w ls hs
  have hm : (k0 == 2 || k0 == 3) = true ∨ (k0 == 2 || k0 == 3) = false := by cases (k0 == 2 || k0 == 3) <;> simp
  have hP0 := placesOf_ge k0
  have hP9 := placesOf_le k0
  rcases hm with hm | hm
  · have hP : 0 < placesOf k0 := by
      simp at hm
      rcases hm with rfl | rfl <;> decide
    by_cases b1 : wB k1 (placesOf k0 - 1) = true
    rotate_left
    · have e : kErr vs vr k0 k1 k2 k3 k4 = vr := by simp [kErr, rightB, hidOf, hP, b0, b1]
      rw [e]; exact kway_m_b1 k0 k1 k2 k3 k4 _ w hP hP9 vr lr hr (Lib.hid b0) (Lib.hid rfl) (Lib.hid hm) (Lib.hid (by simpa using b1))
    by_cases b2 : wB k2 1048575 = true
    rotate_left
    · have e : kErr vs vr k0 k1 k2 k3 k4 = vr := by simp [kErr, rightB, hverOf, hP, b0, b2]
      rw [e]; exact kway_m_b2 k0 k1 k2 k3 k4 _ w hP hP9 vr lr hr (Lib.hid b0) (Lib.hid rfl) (Lib.hid hm) (Lib.hid b1) (Lib.hid (by simpa using b2))
    by_cases b3 : wB k3 7 = true
    rotate_left
    · have e : kErr vs vr k0 k1 k2 k3 k4 = vr := by simp only [kErr, rightB, hrOf, if_pos hm, b0]; simp [b3]
      rw [e]; exact kway_m_b3 k0 k1 k2 k3 k4 _ w hP hP9 vr lr hr (Lib.hid b0) (Lib.hid rfl) (Lib.hid hm) (Lib.hid b1) (Lib.hid b2) (Lib.hid (by simpa using b3))
    by_cases b4 : k4 ≤ dataMost k0
    rotate_left
    · have e : kErr vs vr k0 k1 k2 k3 k4 = vr := by simp [kErr, rightB, b0, b4]
      rw [e]; exact kway_m_b4 k0 k1 k2 k3 k4 _ _ w hP hP9 vr lr hr (Lib.hid b0) (Lib.hid rfl) (Lib.hid hm) (Lib.hid b1) (Lib.hid b2) (Lib.hid b3) (Lib.hid rfl) (by omega)
    have e : kErr vs vr k0 k1 k2 k3 k4 = .nilIface := by
      have : rightB k0 k1 k2 k3 k4 = true := by simp only [rightB, hidOf, hverOf, hrOf, if_pos hP, if_pos hm, b0, b1, b2, b3]; simp [b4]
      simp [kErr, this]
    rw [e]; exact kway_m_ok k0 k1 k2 k3 k4 _ _ w hP hP9 (Lib.hid b0) (Lib.hid rfl) (Lib.hid hm) (Lib.hid b1) (Lib.hid b2) (Lib.hid b3) (Lib.hid rfl) b4
  · have hr0 : hrOf k0 = 0 := by simp only [hrOf, hm]; simp
    by_cases hP : 0 < placesOf k0
    · by_cases b1 : wB k1 (placesOf k0 - 1) = true
      rotate_left
      · have e : kErr vs vr k0 k1 k2 k3 k4 = vr := by simp [kErr, rightB, hidOf, hP, b0, b1]
        rw [e]; exact kway_p_b1 k0 k1 k2 k3 k4 _ w hP hP9 vr lr hr (Lib.hid b0) (Lib.hid rfl) (Lib.hid hm) (Lib.hid (by simpa using b1))
      by_cases b2 : wB k2 1048575 = true
      rotate_left
      · have e : kErr vs vr k0 k1 k2 k3 k4 = vr := by simp [kErr, rightB, hverOf, hP, b0, b2]
        rw [e]; exact kway_p_b2 k0 k1 k2 k3 k4 _ w hP hP9 vr lr hr (Lib.hid b0) (Lib.hid rfl) (Lib.hid hm) (Lib.hid b1) (Lib.hid (by simpa using b2))
      by_cases b3 : wB k3 0 = true
      rotate_left
      · have e : kErr vs vr k0 k1 k2 k3 k4 = vr := by simp [kErr, rightB, hr0, b0, b3]
        rw [e]; exact kway_p_b3 k0 k1 k2 k3 k4 _ w hP hP9 vr lr hr (Lib.hid b0) (Lib.hid rfl) (Lib.hid hm) (Lib.hid b1) (Lib.hid b2) (Lib.hid (by simpa using b3))
      by_cases b4 : k4 ≤ dataMost k0
      rotate_left
      · have e : kErr vs vr k0 k1 k2 k3 k4 = vr := by simp [kErr, rightB, b0, b4]
        rw [e]; exact kway_p_b4 k0 k1 k2 k3 k4 _ _ w hP hP9 vr lr hr (Lib.hid b0) (Lib.hid rfl) (Lib.hid hm) (Lib.hid b1) (Lib.hid b2) (Lib.hid b3) (Lib.hid rfl) (by omega)
      have e : kErr vs vr k0 k1 k2 k3 k4 = .nilIface := by
        have : rightB k0 k1 k2 k3 k4 = true := by simp only [rightB, hidOf, hverOf, hr0, if_pos hP, b0, b1, b2, b3]; simp [b4]
        simp [kErr, this]
      rw [e]; exact kway_p_ok k0 k1 k2 k3 k4 _ _ w hP hP9 (Lib.hid b0) (Lib.hid rfl) (Lib.hid hm) (Lib.hid b1) (Lib.hid b2) (Lib.hid b3) (Lib.hid rfl) b4
    · have hz : placesOf k0 = 0 := by omega
      by_cases b1 : wB k1 0 = true
      rotate_left
      · have e : kErr vs vr k0 k1 k2 k3 k4 = vr := by simp [kErr, rightB, hidOf, hP, b0, b1]
        rw [e]; exact kway_n_b1 k0 k1 k2 k3 k4 w vr lr hr (Lib.hid b0) (Lib.hid hz) (Lib.hid hm) (Lib.hid (by simpa using b1))
      by_cases b2 : wB k2 0 = true
      rotate_left
      · have e : kErr vs vr k0 k1 k2 k3 k4 = vr := by simp [kErr, rightB, hverOf, hP, b0, b2]
        rw [e]; exact kway_n_b2 k0 k1 k2 k3 k4 w vr lr hr (Lib.hid b0) (Lib.hid hz) (Lib.hid hm) (Lib.hid b1) (Lib.hid (by simpa using b2))
      by_cases b3 : wB k3 0 = true
      rotate_left
      · have e : kErr vs vr k0 k1 k2 k3 k4 = vr := by simp [kErr, rightB, hr0, b0, b3]
        rw [e]; exact kway_n_b3 k0 k1 k2 k3 k4 w vr lr hr (Lib.hid b0) (Lib.hid hz) (Lib.hid hm) (Lib.hid b1) (Lib.hid b2) (Lib.hid (by simpa using b3))
      by_cases b4 : k4 ≤ dataMost k0
      rotate_left
      · have e : kErr vs vr k0 k1 k2 k3 k4 = vr := by simp [kErr, rightB, b0, b4]
        rw [e]; exact kway_n_b4 k0 k1 k2 k3 k4 _ w vr lr hr (Lib.hid b0) (Lib.hid hz) (Lib.hid hm) (Lib.hid b1) (Lib.hid b2) (Lib.hid b3) (Lib.hid rfl) (by omega)
      have e : kErr vs vr k0 k1 k2 k3 k4 = .nilIface := by
        have : rightB k0 k1 k2 k3 k4 = true := by simp only [rightB, hidOf, hverOf, hr0, if_neg hP, b0, b1, b2, b3]; simp [b4]
        simp [kErr, this]
      rw [e]; exact kway_n_ok k0 k1 k2 k3 k4 _ w (Lib.hid b0) (Lib.hid hz) (Lib.hid hm) (Lib.hid b1) (Lib.hid b2) (Lib.hid b3) (Lib.hid rfl) b4
/-- A right key: nothing. -/
theorem kvalid_ok (k0 k1 k2 k3 k4 : Int) (vs vr : Value) (h : Hid (rightB k0 k1 k2 k3 k4 = true)) (w : World) (hE : ErrsAt vs vr w) :
    Calls Tryz.prog 70 #[(Value.agg #[.int .i64 k0, .int .i64 k1, .int .i64 k2, .int .i64 k3, .int .u32 k4])] w fun e w' => e = .returned .nilIface ∧ Below w.heap.size w w' := by
  have := kvalid_any k0 k1 k2 k3 k4 vs vr w hE
  have e : kErr vs vr k0 k1 k2 k3 k4 = .nilIface := by simp [kErr, h.out]
  rwa [e] at this
/-- One that is none: an error. -/
theorem kvalid_bad (k0 k1 k2 k3 k4 : Int) (tp : TypeId) (a b : Addr) (h : Hid (rightB k0 k1 k2 k3 k4 = false)) (w : World) (hE : ErrsAt (.iface tp (.pointer (some a))) (.iface tp (.pointer (some b))) w) :
    Calls Tryz.prog 70 #[(Value.agg #[.int .i64 k0, .int .i64 k1, .int .i64 k2, .int .i64 k3, .int .u32 k4])] w fun e w' => ∃ c : Addr, e = .returned (.iface tp (.pointer (some c))) ∧ Below w.heap.size w w' := by
  refine (kvalid_any k0 k1 k2 k3 k4 _ _ w hE).mono fun e w' ⟨he, hb⟩ => ?_
  by_cases h0 : wB k0 14 = true
  · exact ⟨b, by rw [he]; simp [kErr, h.out, h0], hb⟩
  · exact ⟨a, by rw [he]; simp [kErr, h.out, h0], hb⟩
end Go.Proofs.YtncopdhhchmpeaaGreatDoor
