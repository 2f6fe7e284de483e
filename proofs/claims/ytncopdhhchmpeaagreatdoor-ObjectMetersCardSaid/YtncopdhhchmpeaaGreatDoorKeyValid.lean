import Derived.Test.YtncopdhhchmpeaaGreatDoorKeyPage
namespace Go.Proofs.YtncopdhhchmpeaaGreatDoor
open Go.ChangeShapes Go.WideShapes Go.ChangeAt Go.RowKit
set_option linter.unusedVariables false
theorem kwithin_in (n h : Int) (hn : Hid (0 ≤ n ∧ n ≤ h)) (w : World) : Calls Tryz.prog 99 #[.int .i64 n, .int .i64 h] w fun e w' => e = .returned (.bool true) ∧ w = w' := kwithin_yes n h hn.out.1 hn.out.2 w
set_option maxRecDepth 100000 in
theorem kvalid_mem (k0 k1 k2 k3 k4 : Int) (d : Int) (hk : Hid (0 ≤ k0 ∧ k0 ≤ 14)) (hp : Hid (placesOf k0 = 256)) (hm : Hid (k0 = 2 ∨ k0 = 3)) (h1 : Hid (0 ≤ k1 ∧ k1 ≤ 255)) (h2 : Hid (0 ≤ k2 ∧ k2 ≤ 1048575)) (h3 : Hid (0 ≤ k3 ∧ k3 ≤ 7)) (hd : Hid (dataMost k0 = d)) (h4 : k4 ≤ d) (w : World) :
    Calls Tryz.prog 70 #[(Value.agg #[.int .i64 k0, .int .i64 k1, .int .i64 k2, .int .i64 k3, .int .u32 k4])] w fun e w' => e = .returned .nilIface ∧ Below w.heap.size w w' := by
  have S0 := startSP w k0 k1 k2 k3 k4
  have d4 : decide (d < k4) = false := by rw [decide_eq_false_iff_not]; omega
  have ST : Hid (Below w.heap.size w (w.alloc (.cells #[.int .i64 k0, .int .i64 k1, .int .i64 k2, .int .i64 k3, .int .u32 k4] 42)).drew ∧ (w.heap.size < (w.alloc (.cells #[.int .i64 k0, .int .i64 k1, .int .i64 k2, .int .i64 k3, .int .u32 k4] 42)).drew.heap.size ∧ (w.alloc (.cells #[.int .i64 k0, .int .i64 k1, .int .i64 k2, .int .i64 k3, .int .u32 k4] 42)).drew.cell? ⟨w.heap.size, 0, none⟩ = some (.int .i64 k0) ∧ (w.alloc (.cells #[.int .i64 k0, .int .i64 k1, .int .i64 k2, .int .i64 k3, .int .u32 k4] 42)).drew.cell? ⟨w.heap.size, 1, none⟩ = some (.int .i64 k1) ∧ (w.alloc (.cells #[.int .i64 k0, .int .i64 k1, .int .i64 k2, .int .i64 k3, .int .u32 k4] 42)).drew.cell? ⟨w.heap.size, 2, none⟩ = some (.int .i64 k2) ∧ (w.alloc (.cells #[.int .i64 k0, .int .i64 k1, .int .i64 k2, .int .i64 k3, .int .u32 k4] 42)).drew.cell? ⟨w.heap.size, 3, none⟩ = some (.int .i64 k3) ∧ (w.alloc (.cells #[.int .i64 k0, .int .i64 k1, .int .i64 k2, .int .i64 k3, .int .u32 k4] 42)).drew.cell? ⟨w.heap.size, 4, none⟩ = some (.int .u32 k4))) := Lib.hid ⟨S0.1.drew, S0.2⟩
  clear S0
  go_enter Tryz.func70, Tryz.ntmps70
  go_wp2_with (first
    | (go_at_call 99; (with_reducible refine (kwithin_in _ _ hk _).mono ?_); rintro e w1 ⟨rfl, rfl⟩)
    | (go_at_call 100; refine (kplaces_is k0 256 hp.out _).mono ?_; rintro e w1 ⟨rfl, rfl⟩)
    | (go_at_call 101; refine (kmay_yes k0 hm.out _).mono ?_; rintro e w1 ⟨rfl, rfl⟩))
  go_region_held3 (fun w' => Below w.heap.size w w' ∧ (w.heap.size < w'.heap.size ∧ w'.cell? ⟨w.heap.size, 0, none⟩ = some (.int .i64 k0) ∧ w'.cell? ⟨w.heap.size, 1, none⟩ = some (.int .i64 k1) ∧ w'.cell? ⟨w.heap.size, 2, none⟩ = some (.int .i64 k2) ∧ w'.cell? ⟨w.heap.size, 3, none⟩ = some (.int .i64 k3) ∧ w'.cell? ⟨w.heap.size, 4, none⟩ = some (.int .u32 k4))) (first | exact ST.out | assumption | exact keepSP k0 k1 k2 k3 k4 (by assumption) hb)
    (first
      | (go_at_call 99; (with_reducible refine (below_of (kwithin_in _ _ h1 _)).mono ?_); rintro e w' ⟨rfl, hb⟩)
      | (go_at_call 99; (with_reducible refine (below_of (kwithin_in _ _ h2 _)).mono ?_); rintro e w' ⟨rfl, hb⟩)
      | (go_at_call 99; (with_reducible refine (below_of (kwithin_in _ _ h3 _)).mono ?_); rintro e w' ⟨rfl, hb⟩)
      | (go_at_call 102; refine (below_of (kmaxdata_is k0 d hd.out _)).mono ?_; rintro e w' ⟨rfl, hb⟩))
  go_wp2
  go_ret
  refine ⟨rfl, ?_⟩
  apply And.left
  assumption
set_option maxRecDepth 100000 in
theorem kvalid_32 (k0 k1 k2 k3 k4 : Int) (d : Int) (hk : Hid (0 ≤ k0 ∧ k0 ≤ 14)) (hp : Hid (placesOf k0 = 32)) (n2 : Hid (¬ k0 = 2)) (n3 : Hid (¬ k0 = 3)) (h1 : Hid (0 ≤ k1 ∧ k1 ≤ 31)) (h2 : Hid (0 ≤ k2 ∧ k2 ≤ 1048575)) (h3 : Hid (0 ≤ k3 ∧ k3 ≤ 0)) (hd : Hid (dataMost k0 = d)) (h4 : k4 ≤ d) (w : World) :
    Calls Tryz.prog 70 #[(Value.agg #[.int .i64 k0, .int .i64 k1, .int .i64 k2, .int .i64 k3, .int .u32 k4])] w fun e w' => e = .returned .nilIface ∧ Below w.heap.size w w' := by
  have S0 := startSP w k0 k1 k2 k3 k4
  have d4 : decide (d < k4) = false := by rw [decide_eq_false_iff_not]; omega
  have ST : Hid (Below w.heap.size w (w.alloc (.cells #[.int .i64 k0, .int .i64 k1, .int .i64 k2, .int .i64 k3, .int .u32 k4] 42)).drew ∧ (w.heap.size < (w.alloc (.cells #[.int .i64 k0, .int .i64 k1, .int .i64 k2, .int .i64 k3, .int .u32 k4] 42)).drew.heap.size ∧ (w.alloc (.cells #[.int .i64 k0, .int .i64 k1, .int .i64 k2, .int .i64 k3, .int .u32 k4] 42)).drew.cell? ⟨w.heap.size, 0, none⟩ = some (.int .i64 k0) ∧ (w.alloc (.cells #[.int .i64 k0, .int .i64 k1, .int .i64 k2, .int .i64 k3, .int .u32 k4] 42)).drew.cell? ⟨w.heap.size, 1, none⟩ = some (.int .i64 k1) ∧ (w.alloc (.cells #[.int .i64 k0, .int .i64 k1, .int .i64 k2, .int .i64 k3, .int .u32 k4] 42)).drew.cell? ⟨w.heap.size, 2, none⟩ = some (.int .i64 k2) ∧ (w.alloc (.cells #[.int .i64 k0, .int .i64 k1, .int .i64 k2, .int .i64 k3, .int .u32 k4] 42)).drew.cell? ⟨w.heap.size, 3, none⟩ = some (.int .i64 k3) ∧ (w.alloc (.cells #[.int .i64 k0, .int .i64 k1, .int .i64 k2, .int .i64 k3, .int .u32 k4] 42)).drew.cell? ⟨w.heap.size, 4, none⟩ = some (.int .u32 k4))) := Lib.hid ⟨S0.1.drew, S0.2⟩
  clear S0
  go_enter Tryz.func70, Tryz.ntmps70
  go_wp2_with (first
    | (go_at_call 99; (with_reducible refine (kwithin_in _ _ hk _).mono ?_); rintro e w1 ⟨rfl, rfl⟩)
    | (go_at_call 100; refine (kplaces_is k0 32 hp.out _).mono ?_; rintro e w1 ⟨rfl, rfl⟩)
    | (go_at_call 101; refine (kmay_no k0 n2.out n3.out _).mono ?_; rintro e w1 ⟨rfl, rfl⟩))
  go_region_held3 (fun w' => Below w.heap.size w w' ∧ (w.heap.size < w'.heap.size ∧ w'.cell? ⟨w.heap.size, 0, none⟩ = some (.int .i64 k0) ∧ w'.cell? ⟨w.heap.size, 1, none⟩ = some (.int .i64 k1) ∧ w'.cell? ⟨w.heap.size, 2, none⟩ = some (.int .i64 k2) ∧ w'.cell? ⟨w.heap.size, 3, none⟩ = some (.int .i64 k3) ∧ w'.cell? ⟨w.heap.size, 4, none⟩ = some (.int .u32 k4))) (first | exact ST.out | assumption | exact keepSP k0 k1 k2 k3 k4 (by assumption) hb)
    (first
      | (go_at_call 99; (with_reducible refine (below_of (kwithin_in _ _ h1 _)).mono ?_); rintro e w' ⟨rfl, hb⟩)
      | (go_at_call 99; (with_reducible refine (below_of (kwithin_in _ _ h2 _)).mono ?_); rintro e w' ⟨rfl, hb⟩)
      | (go_at_call 99; (with_reducible refine (below_of (kwithin_in _ _ h3 _)).mono ?_); rintro e w' ⟨rfl, hb⟩)
      | (go_at_call 102; refine (below_of (kmaxdata_is k0 d hd.out _)).mono ?_; rintro e w' ⟨rfl, hb⟩))
  go_wp2
  go_ret
  refine ⟨rfl, ?_⟩
  apply And.left
  assumption
set_option maxRecDepth 100000 in
theorem kvalid_64 (k0 k1 k2 k3 k4 : Int) (d : Int) (hk : Hid (0 ≤ k0 ∧ k0 ≤ 14)) (hp : Hid (placesOf k0 = 64)) (n2 : Hid (¬ k0 = 2)) (n3 : Hid (¬ k0 = 3)) (h1 : Hid (0 ≤ k1 ∧ k1 ≤ 63)) (h2 : Hid (0 ≤ k2 ∧ k2 ≤ 1048575)) (h3 : Hid (0 ≤ k3 ∧ k3 ≤ 0)) (hd : Hid (dataMost k0 = d)) (h4 : k4 ≤ d) (w : World) :
    Calls Tryz.prog 70 #[(Value.agg #[.int .i64 k0, .int .i64 k1, .int .i64 k2, .int .i64 k3, .int .u32 k4])] w fun e w' => e = .returned .nilIface ∧ Below w.heap.size w w' := by
  have S0 := startSP w k0 k1 k2 k3 k4
  have d4 : decide (d < k4) = false := by rw [decide_eq_false_iff_not]; omega
  have ST : Hid (Below w.heap.size w (w.alloc (.cells #[.int .i64 k0, .int .i64 k1, .int .i64 k2, .int .i64 k3, .int .u32 k4] 42)).drew ∧ (w.heap.size < (w.alloc (.cells #[.int .i64 k0, .int .i64 k1, .int .i64 k2, .int .i64 k3, .int .u32 k4] 42)).drew.heap.size ∧ (w.alloc (.cells #[.int .i64 k0, .int .i64 k1, .int .i64 k2, .int .i64 k3, .int .u32 k4] 42)).drew.cell? ⟨w.heap.size, 0, none⟩ = some (.int .i64 k0) ∧ (w.alloc (.cells #[.int .i64 k0, .int .i64 k1, .int .i64 k2, .int .i64 k3, .int .u32 k4] 42)).drew.cell? ⟨w.heap.size, 1, none⟩ = some (.int .i64 k1) ∧ (w.alloc (.cells #[.int .i64 k0, .int .i64 k1, .int .i64 k2, .int .i64 k3, .int .u32 k4] 42)).drew.cell? ⟨w.heap.size, 2, none⟩ = some (.int .i64 k2) ∧ (w.alloc (.cells #[.int .i64 k0, .int .i64 k1, .int .i64 k2, .int .i64 k3, .int .u32 k4] 42)).drew.cell? ⟨w.heap.size, 3, none⟩ = some (.int .i64 k3) ∧ (w.alloc (.cells #[.int .i64 k0, .int .i64 k1, .int .i64 k2, .int .i64 k3, .int .u32 k4] 42)).drew.cell? ⟨w.heap.size, 4, none⟩ = some (.int .u32 k4))) := Lib.hid ⟨S0.1.drew, S0.2⟩
  clear S0
  go_enter Tryz.func70, Tryz.ntmps70
  go_wp2_with (first
    | (go_at_call 99; (with_reducible refine (kwithin_in _ _ hk _).mono ?_); rintro e w1 ⟨rfl, rfl⟩)
    | (go_at_call 100; refine (kplaces_is k0 64 hp.out _).mono ?_; rintro e w1 ⟨rfl, rfl⟩)
    | (go_at_call 101; refine (kmay_no k0 n2.out n3.out _).mono ?_; rintro e w1 ⟨rfl, rfl⟩))
  go_region_held3 (fun w' => Below w.heap.size w w' ∧ (w.heap.size < w'.heap.size ∧ w'.cell? ⟨w.heap.size, 0, none⟩ = some (.int .i64 k0) ∧ w'.cell? ⟨w.heap.size, 1, none⟩ = some (.int .i64 k1) ∧ w'.cell? ⟨w.heap.size, 2, none⟩ = some (.int .i64 k2) ∧ w'.cell? ⟨w.heap.size, 3, none⟩ = some (.int .i64 k3) ∧ w'.cell? ⟨w.heap.size, 4, none⟩ = some (.int .u32 k4))) (first | exact ST.out | assumption | exact keepSP k0 k1 k2 k3 k4 (by assumption) hb)
    (first
      | (go_at_call 99; (with_reducible refine (below_of (kwithin_in _ _ h1 _)).mono ?_); rintro e w' ⟨rfl, hb⟩)
      | (go_at_call 99; (with_reducible refine (below_of (kwithin_in _ _ h2 _)).mono ?_); rintro e w' ⟨rfl, hb⟩)
      | (go_at_call 99; (with_reducible refine (below_of (kwithin_in _ _ h3 _)).mono ?_); rintro e w' ⟨rfl, hb⟩)
      | (go_at_call 102; refine (below_of (kmaxdata_is k0 d hd.out _)).mono ?_; rintro e w' ⟨rfl, hb⟩))
  go_wp2
  go_ret
  refine ⟨rfl, ?_⟩
  apply And.left
  assumption
set_option maxRecDepth 100000 in
theorem kvalid_0 (k0 k1 k2 k3 k4 : Int) (d : Int) (hk : Hid (0 ≤ k0 ∧ k0 ≤ 14)) (hp : Hid (placesOf k0 = 0)) (n2 : Hid (¬ k0 = 2)) (n3 : Hid (¬ k0 = 3)) (h1 : Hid (0 ≤ k1 ∧ k1 ≤ 0)) (h2 : Hid (0 ≤ k2 ∧ k2 ≤ 0)) (h3 : Hid (0 ≤ k3 ∧ k3 ≤ 0)) (hd : Hid (dataMost k0 = d)) (h4 : k4 ≤ d) (w : World) :
    Calls Tryz.prog 70 #[(Value.agg #[.int .i64 k0, .int .i64 k1, .int .i64 k2, .int .i64 k3, .int .u32 k4])] w fun e w' => e = .returned .nilIface ∧ Below w.heap.size w w' := by
  have S0 := startSP w k0 k1 k2 k3 k4
  have d4 : decide (d < k4) = false := by rw [decide_eq_false_iff_not]; omega
  have ST : Hid (Below w.heap.size w (w.alloc (.cells #[.int .i64 k0, .int .i64 k1, .int .i64 k2, .int .i64 k3, .int .u32 k4] 42)).drew ∧ (w.heap.size < (w.alloc (.cells #[.int .i64 k0, .int .i64 k1, .int .i64 k2, .int .i64 k3, .int .u32 k4] 42)).drew.heap.size ∧ (w.alloc (.cells #[.int .i64 k0, .int .i64 k1, .int .i64 k2, .int .i64 k3, .int .u32 k4] 42)).drew.cell? ⟨w.heap.size, 0, none⟩ = some (.int .i64 k0) ∧ (w.alloc (.cells #[.int .i64 k0, .int .i64 k1, .int .i64 k2, .int .i64 k3, .int .u32 k4] 42)).drew.cell? ⟨w.heap.size, 1, none⟩ = some (.int .i64 k1) ∧ (w.alloc (.cells #[.int .i64 k0, .int .i64 k1, .int .i64 k2, .int .i64 k3, .int .u32 k4] 42)).drew.cell? ⟨w.heap.size, 2, none⟩ = some (.int .i64 k2) ∧ (w.alloc (.cells #[.int .i64 k0, .int .i64 k1, .int .i64 k2, .int .i64 k3, .int .u32 k4] 42)).drew.cell? ⟨w.heap.size, 3, none⟩ = some (.int .i64 k3) ∧ (w.alloc (.cells #[.int .i64 k0, .int .i64 k1, .int .i64 k2, .int .i64 k3, .int .u32 k4] 42)).drew.cell? ⟨w.heap.size, 4, none⟩ = some (.int .u32 k4))) := Lib.hid ⟨S0.1.drew, S0.2⟩
  clear S0
  go_enter Tryz.func70, Tryz.ntmps70
  go_wp2_with (first
    | (go_at_call 99; (with_reducible refine (kwithin_in _ _ hk _).mono ?_); rintro e w1 ⟨rfl, rfl⟩)
    | (go_at_call 100; refine (kplaces_is k0 0 hp.out _).mono ?_; rintro e w1 ⟨rfl, rfl⟩)
    | (go_at_call 101; refine (kmay_no k0 n2.out n3.out _).mono ?_; rintro e w1 ⟨rfl, rfl⟩))
  go_region_held3 (fun w' => Below w.heap.size w w' ∧ (w.heap.size < w'.heap.size ∧ w'.cell? ⟨w.heap.size, 0, none⟩ = some (.int .i64 k0) ∧ w'.cell? ⟨w.heap.size, 1, none⟩ = some (.int .i64 k1) ∧ w'.cell? ⟨w.heap.size, 2, none⟩ = some (.int .i64 k2) ∧ w'.cell? ⟨w.heap.size, 3, none⟩ = some (.int .i64 k3) ∧ w'.cell? ⟨w.heap.size, 4, none⟩ = some (.int .u32 k4))) (first | exact ST.out | assumption | exact keepSP k0 k1 k2 k3 k4 (by assumption) hb)
    (first
      | (go_at_call 99; (with_reducible refine (below_of (kwithin_in _ _ h1 _)).mono ?_); rintro e w' ⟨rfl, hb⟩)
      | (go_at_call 99; (with_reducible refine (below_of (kwithin_in _ _ h2 _)).mono ?_); rintro e w' ⟨rfl, hb⟩)
      | (go_at_call 99; (with_reducible refine (below_of (kwithin_in _ _ h3 _)).mono ?_); rintro e w' ⟨rfl, hb⟩)
      | (go_at_call 102; refine (below_of (kmaxdata_is k0 d hd.out _)).mono ?_; rintro e w' ⟨rfl, hb⟩))
  go_wp2
  go_ret
  refine ⟨rfl, ?_⟩
  apply And.left
  assumption
end Go.Proofs.YtncopdhhchmpeaaGreatDoor
