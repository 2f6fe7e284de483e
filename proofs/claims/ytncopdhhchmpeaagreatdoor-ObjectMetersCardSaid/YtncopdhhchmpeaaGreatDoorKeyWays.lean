import Derived.Test.YtncopdhhchmpeaaGreatDoorKeyShape
namespace Go.Proofs.YtncopdhhchmpeaaGreatDoor
open Go.ChangeShapes Go.WideShapes Go.ChangeAt Go.RowKit
set_option linter.unusedVariables false
/-- Is n from 0 to h? -/
def wB (n h : Int) : Bool := decide (0 ≤ n ∧ n ≤ h)
theorem kwithin_b (n h : Int) (b : Bool) (hb : Hid (wB n h = b)) (w : World) : Calls Tryz.prog 99 #[.int .i64 n, .int .i64 h] w fun e w' => e = .returned (.bool b) ∧ w = w' := by
  have hb := hb.out
  cases b with
  | true => exact kwithin_in n h (Lib.hid (by simpa [wB] using hb)) w
  | false => exact kwithin_out n h (Lib.hid (by simpa [wB] using hb)) w
theorem kquiet_left {P : Program} {f : FuncId} {args : Array Value} {w : World} {n : Nat} {v : Value}
    (h : Calls P f args (w.drewN n) fun e w' => e = .returned v ∧ w.drewN n = w') : Calls P f args (w.drewN n) fun e w'' => e = .returned v ∧ ∃ m, w'' = w.drewN m :=
  h.mono fun _ _ ⟨he, hm⟩ => ⟨he, n, hm.symm⟩
theorem kmay_b (k : Int) (b : Bool) (hb : Hid ((k == 2 || k == 3) = b)) (w : World) : Calls Tryz.prog 101 #[.int .i64 k] w fun e w' => e = .returned (.bool b) ∧ w = w' := by
  have hb := hb.out
  cases b with
  | true => exact kmay_yes k (by simpa using hb) w
  | false => simp at hb; exact kmay_no k hb.1 hb.2 w
set_option maxRecDepth 100000 in
set_option maxHeartbeats 400000 in
theorem kway_m_ok (k0 k1 k2 k3 k4 : Int) (P d : Int) (w : World) (h0 : 0 < P) (h9 : P ≤ 256) (hk : Hid (wB k0 14 = true)) (hp : Hid (placesOf k0 = P)) (hm : Hid ((k0 == 2 || k0 == 3) = true)) (w1 : Hid (wB k1 (P - 1) = true)) (w2 : Hid (wB k2 (1048575) = true)) (w3 : Hid (wB k3 (7) = true)) (hd : Hid (dataMost k0 = d)) (h4 : k4 ≤ d) :
    Calls Tryz.prog 70 #[(Value.agg #[.int .i64 k0, .int .i64 k1, .int .i64 k2, .int .i64 k3, .int .u32 k4])] w fun e w' => e = .returned .nilIface ∧ Below w.heap.size w w' := by
  have d4 : decide (d < k4) = false := by simp; omega
  go_enter Tryz.func70, Tryz.ntmps70
  go_wp2_with (first
    | (go_at_call 99; (with_reducible refine (kwithin_b _ _ _ hk _).mono ?_); rintro e w1 ⟨rfl, rfl⟩)
    | (go_at_call 100; refine (kplaces_is k0 _ hp.out _).mono ?_; rintro e w1 ⟨rfl, rfl⟩)
    | (go_at_call 101; refine (kmay_b k0 _ hm _).mono ?_; rintro e w1 ⟨rfl, rfl⟩))
  go_quiet ((first | (go_at_call 99; with_reducible exact kquiet_left (kwithin_b _ _ _ w1 _)) | (go_at_call 99; with_reducible exact kquiet_left (kwithin_b _ _ _ w2 _)) | (go_at_call 99; with_reducible exact kquiet_left (kwithin_b _ _ _ w3 _)) | (go_at_call 102; with_reducible exact kquiet_left (kmaxdata_is k0 _ hd.out _))))
  go_wp2
  go_ret
  exact ⟨rfl, below_drewN ((Below.refl _ _).alloc (Nat.le_refl _) _) _⟩
set_option maxRecDepth 100000 in
set_option maxHeartbeats 400000 in
theorem kway_m_b1 (k0 k1 k2 k3 k4 : Int) (P : Int) (w : World) (h0 : 0 < P) (h9 : P ≤ 256) (v : Value) (hl : 1 < w.heap.size) (hv : w.cell? ⟨1, 0, none⟩ = some v) (hk : Hid (wB k0 14 = true)) (hp : Hid (placesOf k0 = P)) (hm : Hid ((k0 == 2 || k0 == 3) = true)) (w1 : Hid (wB k1 (P - 1) = false)) :
    Calls Tryz.prog 70 #[(Value.agg #[.int .i64 k0, .int .i64 k1, .int .i64 k2, .int .i64 k3, .int .u32 k4])] w fun e w' => e = .returned v ∧ Below w.heap.size w w' := by
  have n0 : (w.alloc (.cells #[.int .i64 k0, .int .i64 k1, .int .i64 k2, .int .i64 k3, .int .u32 k4] 42)).cell? ⟨1, 0, none⟩ = some v := (World.cell?_alloc_lt w _ ⟨1, 0, none⟩ hl).trans hv
  go_enter Tryz.func70, Tryz.ntmps70
  go_wp2_with (first
    | (go_at_call 99; (with_reducible refine (kwithin_b _ _ _ hk _).mono ?_); rintro e w1 ⟨rfl, rfl⟩)
    | (go_at_call 100; refine (kplaces_is k0 _ hp.out _).mono ?_; rintro e w1 ⟨rfl, rfl⟩)
    | (go_at_call 101; refine (kmay_b k0 _ hm _).mono ?_; rintro e w1 ⟨rfl, rfl⟩))
  go_quiet ((first | (go_at_call 99; with_reducible exact kquiet_left (kwithin_b _ _ _ w1 _))))
  go_wp2
  go_ret
  exact ⟨rfl, below_drewN ((Below.refl _ _).alloc (Nat.le_refl _) _) _⟩
set_option maxRecDepth 100000 in
set_option maxHeartbeats 400000 in
theorem kway_m_b2 (k0 k1 k2 k3 k4 : Int) (P : Int) (w : World) (h0 : 0 < P) (h9 : P ≤ 256) (v : Value) (hl : 1 < w.heap.size) (hv : w.cell? ⟨1, 0, none⟩ = some v) (hk : Hid (wB k0 14 = true)) (hp : Hid (placesOf k0 = P)) (hm : Hid ((k0 == 2 || k0 == 3) = true)) (w1 : Hid (wB k1 (P - 1) = true)) (w2 : Hid (wB k2 (1048575) = false)) :
    Calls Tryz.prog 70 #[(Value.agg #[.int .i64 k0, .int .i64 k1, .int .i64 k2, .int .i64 k3, .int .u32 k4])] w fun e w' => e = .returned v ∧ Below w.heap.size w w' := by
  have n0 : (w.alloc (.cells #[.int .i64 k0, .int .i64 k1, .int .i64 k2, .int .i64 k3, .int .u32 k4] 42)).cell? ⟨1, 0, none⟩ = some v := (World.cell?_alloc_lt w _ ⟨1, 0, none⟩ hl).trans hv
  go_enter Tryz.func70, Tryz.ntmps70
  go_wp2_with (first
    | (go_at_call 99; (with_reducible refine (kwithin_b _ _ _ hk _).mono ?_); rintro e w1 ⟨rfl, rfl⟩)
    | (go_at_call 100; refine (kplaces_is k0 _ hp.out _).mono ?_; rintro e w1 ⟨rfl, rfl⟩)
    | (go_at_call 101; refine (kmay_b k0 _ hm _).mono ?_; rintro e w1 ⟨rfl, rfl⟩))
  go_quiet ((first | (go_at_call 99; with_reducible exact kquiet_left (kwithin_b _ _ _ w1 _)) | (go_at_call 99; with_reducible exact kquiet_left (kwithin_b _ _ _ w2 _))))
  go_wp2
  go_ret
  exact ⟨rfl, below_drewN ((Below.refl _ _).alloc (Nat.le_refl _) _) _⟩
set_option maxRecDepth 100000 in
set_option maxHeartbeats 400000 in
theorem kway_m_b3 (k0 k1 k2 k3 k4 : Int) (P : Int) (w : World) (h0 : 0 < P) (h9 : P ≤ 256) (v : Value) (hl : 1 < w.heap.size) (hv : w.cell? ⟨1, 0, none⟩ = some v) (hk : Hid (wB k0 14 = true)) (hp : Hid (placesOf k0 = P)) (hm : Hid ((k0 == 2 || k0 == 3) = true)) (w1 : Hid (wB k1 (P - 1) = true)) (w2 : Hid (wB k2 (1048575) = true)) (w3 : Hid (wB k3 (7) = false)) :
    Calls Tryz.prog 70 #[(Value.agg #[.int .i64 k0, .int .i64 k1, .int .i64 k2, .int .i64 k3, .int .u32 k4])] w fun e w' => e = .returned v ∧ Below w.heap.size w w' := by
  have n0 : (w.alloc (.cells #[.int .i64 k0, .int .i64 k1, .int .i64 k2, .int .i64 k3, .int .u32 k4] 42)).cell? ⟨1, 0, none⟩ = some v := (World.cell?_alloc_lt w _ ⟨1, 0, none⟩ hl).trans hv
  go_enter Tryz.func70, Tryz.ntmps70
  go_wp2_with (first
    | (go_at_call 99; (with_reducible refine (kwithin_b _ _ _ hk _).mono ?_); rintro e w1 ⟨rfl, rfl⟩)
    | (go_at_call 100; refine (kplaces_is k0 _ hp.out _).mono ?_; rintro e w1 ⟨rfl, rfl⟩)
    | (go_at_call 101; refine (kmay_b k0 _ hm _).mono ?_; rintro e w1 ⟨rfl, rfl⟩))
  go_quiet ((first | (go_at_call 99; with_reducible exact kquiet_left (kwithin_b _ _ _ w1 _)) | (go_at_call 99; with_reducible exact kquiet_left (kwithin_b _ _ _ w2 _)) | (go_at_call 99; with_reducible exact kquiet_left (kwithin_b _ _ _ w3 _))))
  go_wp2
  go_ret
  exact ⟨rfl, below_drewN ((Below.refl _ _).alloc (Nat.le_refl _) _) _⟩
set_option maxRecDepth 100000 in
set_option maxHeartbeats 400000 in
theorem kway_m_b4 (k0 k1 k2 k3 k4 : Int) (P d : Int) (w : World) (h0 : 0 < P) (h9 : P ≤ 256) (v : Value) (hl : 1 < w.heap.size) (hv : w.cell? ⟨1, 0, none⟩ = some v) (hk : Hid (wB k0 14 = true)) (hp : Hid (placesOf k0 = P)) (hm : Hid ((k0 == 2 || k0 == 3) = true)) (w1 : Hid (wB k1 (P - 1) = true)) (w2 : Hid (wB k2 (1048575) = true)) (w3 : Hid (wB k3 (7) = true)) (hd : Hid (dataMost k0 = d)) (h4 : d < k4) :
    Calls Tryz.prog 70 #[(Value.agg #[.int .i64 k0, .int .i64 k1, .int .i64 k2, .int .i64 k3, .int .u32 k4])] w fun e w' => e = .returned v ∧ Below w.heap.size w w' := by
  have n0 : (w.alloc (.cells #[.int .i64 k0, .int .i64 k1, .int .i64 k2, .int .i64 k3, .int .u32 k4] 42)).cell? ⟨1, 0, none⟩ = some v := (World.cell?_alloc_lt w _ ⟨1, 0, none⟩ hl).trans hv
  have d4 : decide (d < k4) = true := by simp; omega
  go_enter Tryz.func70, Tryz.ntmps70
  go_wp2_with (first
    | (go_at_call 99; (with_reducible refine (kwithin_b _ _ _ hk _).mono ?_); rintro e w1 ⟨rfl, rfl⟩)
    | (go_at_call 100; refine (kplaces_is k0 _ hp.out _).mono ?_; rintro e w1 ⟨rfl, rfl⟩)
    | (go_at_call 101; refine (kmay_b k0 _ hm _).mono ?_; rintro e w1 ⟨rfl, rfl⟩))
  go_quiet ((first | (go_at_call 99; with_reducible exact kquiet_left (kwithin_b _ _ _ w1 _)) | (go_at_call 99; with_reducible exact kquiet_left (kwithin_b _ _ _ w2 _)) | (go_at_call 99; with_reducible exact kquiet_left (kwithin_b _ _ _ w3 _)) | (go_at_call 102; with_reducible exact kquiet_left (kmaxdata_is k0 _ hd.out _))))
  go_wp2
  go_ret
  exact ⟨rfl, below_drewN ((Below.refl _ _).alloc (Nat.le_refl _) _) _⟩
set_option maxRecDepth 100000 in
set_option maxHeartbeats 400000 in
theorem kway_p_ok (k0 k1 k2 k3 k4 : Int) (P d : Int) (w : World) (h0 : 0 < P) (h9 : P ≤ 256) (hk : Hid (wB k0 14 = true)) (hp : Hid (placesOf k0 = P)) (hm : Hid ((k0 == 2 || k0 == 3) = false)) (w1 : Hid (wB k1 (P - 1) = true)) (w2 : Hid (wB k2 (1048575) = true)) (w3 : Hid (wB k3 (0) = true)) (hd : Hid (dataMost k0 = d)) (h4 : k4 ≤ d) :
    Calls Tryz.prog 70 #[(Value.agg #[.int .i64 k0, .int .i64 k1, .int .i64 k2, .int .i64 k3, .int .u32 k4])] w fun e w' => e = .returned .nilIface ∧ Below w.heap.size w w' := by
  have d4 : decide (d < k4) = false := by simp; omega
  go_enter Tryz.func70, Tryz.ntmps70
  go_wp2_with (first
    | (go_at_call 99; (with_reducible refine (kwithin_b _ _ _ hk _).mono ?_); rintro e w1 ⟨rfl, rfl⟩)
    | (go_at_call 100; refine (kplaces_is k0 _ hp.out _).mono ?_; rintro e w1 ⟨rfl, rfl⟩)
    | (go_at_call 101; refine (kmay_b k0 _ hm _).mono ?_; rintro e w1 ⟨rfl, rfl⟩))
  go_quiet ((first | (go_at_call 99; with_reducible exact kquiet_left (kwithin_b _ _ _ w1 _)) | (go_at_call 99; with_reducible exact kquiet_left (kwithin_b _ _ _ w2 _)) | (go_at_call 99; with_reducible exact kquiet_left (kwithin_b _ _ _ w3 _)) | (go_at_call 102; with_reducible exact kquiet_left (kmaxdata_is k0 _ hd.out _))))
  go_wp2
  go_ret
  exact ⟨rfl, below_drewN ((Below.refl _ _).alloc (Nat.le_refl _) _) _⟩
set_option maxRecDepth 100000 in
set_option maxHeartbeats 400000 in
theorem kway_p_b1 (k0 k1 k2 k3 k4 : Int) (P : Int) (w : World) (h0 : 0 < P) (h9 : P ≤ 256) (v : Value) (hl : 1 < w.heap.size) (hv : w.cell? ⟨1, 0, none⟩ = some v) (hk : Hid (wB k0 14 = true)) (hp : Hid (placesOf k0 = P)) (hm : Hid ((k0 == 2 || k0 == 3) = false)) (w1 : Hid (wB k1 (P - 1) = false)) :
    Calls Tryz.prog 70 #[(Value.agg #[.int .i64 k0, .int .i64 k1, .int .i64 k2, .int .i64 k3, .int .u32 k4])] w fun e w' => e = .returned v ∧ Below w.heap.size w w' := by
  have n0 : (w.alloc (.cells #[.int .i64 k0, .int .i64 k1, .int .i64 k2, .int .i64 k3, .int .u32 k4] 42)).cell? ⟨1, 0, none⟩ = some v := (World.cell?_alloc_lt w _ ⟨1, 0, none⟩ hl).trans hv
  go_enter Tryz.func70, Tryz.ntmps70
  go_wp2_with (first
    | (go_at_call 99; (with_reducible refine (kwithin_b _ _ _ hk _).mono ?_); rintro e w1 ⟨rfl, rfl⟩)
    | (go_at_call 100; refine (kplaces_is k0 _ hp.out _).mono ?_; rintro e w1 ⟨rfl, rfl⟩)
    | (go_at_call 101; refine (kmay_b k0 _ hm _).mono ?_; rintro e w1 ⟨rfl, rfl⟩))
  go_quiet ((first | (go_at_call 99; with_reducible exact kquiet_left (kwithin_b _ _ _ w1 _))))
  go_wp2
  go_ret
  exact ⟨rfl, below_drewN ((Below.refl _ _).alloc (Nat.le_refl _) _) _⟩
set_option maxRecDepth 100000 in
set_option maxHeartbeats 400000 in
theorem kway_p_b2 (k0 k1 k2 k3 k4 : Int) (P : Int) (w : World) (h0 : 0 < P) (h9 : P ≤ 256) (v : Value) (hl : 1 < w.heap.size) (hv : w.cell? ⟨1, 0, none⟩ = some v) (hk : Hid (wB k0 14 = true)) (hp : Hid (placesOf k0 = P)) (hm : Hid ((k0 == 2 || k0 == 3) = false)) (w1 : Hid (wB k1 (P - 1) = true)) (w2 : Hid (wB k2 (1048575) = false)) :
    Calls Tryz.prog 70 #[(Value.agg #[.int .i64 k0, .int .i64 k1, .int .i64 k2, .int .i64 k3, .int .u32 k4])] w fun e w' => e = .returned v ∧ Below w.heap.size w w' := by
  have n0 : (w.alloc (.cells #[.int .i64 k0, .int .i64 k1, .int .i64 k2, .int .i64 k3, .int .u32 k4] 42)).cell? ⟨1, 0, none⟩ = some v := (World.cell?_alloc_lt w _ ⟨1, 0, none⟩ hl).trans hv
  go_enter Tryz.func70, Tryz.ntmps70
  go_wp2_with (first
    | (go_at_call 99; (with_reducible refine (kwithin_b _ _ _ hk _).mono ?_); rintro e w1 ⟨rfl, rfl⟩)
    | (go_at_call 100; refine (kplaces_is k0 _ hp.out _).mono ?_; rintro e w1 ⟨rfl, rfl⟩)
    | (go_at_call 101; refine (kmay_b k0 _ hm _).mono ?_; rintro e w1 ⟨rfl, rfl⟩))
  go_quiet ((first | (go_at_call 99; with_reducible exact kquiet_left (kwithin_b _ _ _ w1 _)) | (go_at_call 99; with_reducible exact kquiet_left (kwithin_b _ _ _ w2 _))))
  go_wp2
  go_ret
  exact ⟨rfl, below_drewN ((Below.refl _ _).alloc (Nat.le_refl _) _) _⟩
set_option maxRecDepth 100000 in
set_option maxHeartbeats 400000 in
theorem kway_p_b3 (k0 k1 k2 k3 k4 : Int) (P : Int) (w : World) (h0 : 0 < P) (h9 : P ≤ 256) (v : Value) (hl : 1 < w.heap.size) (hv : w.cell? ⟨1, 0, none⟩ = some v) (hk : Hid (wB k0 14 = true)) (hp : Hid (placesOf k0 = P)) (hm : Hid ((k0 == 2 || k0 == 3) = false)) (w1 : Hid (wB k1 (P - 1) = true)) (w2 : Hid (wB k2 (1048575) = true)) (w3 : Hid (wB k3 (0) = false)) :
    Calls Tryz.prog 70 #[(Value.agg #[.int .i64 k0, .int .i64 k1, .int .i64 k2, .int .i64 k3, .int .u32 k4])] w fun e w' => e = .returned v ∧ Below w.heap.size w w' := by
  have n0 : (w.alloc (.cells #[.int .i64 k0, .int .i64 k1, .int .i64 k2, .int .i64 k3, .int .u32 k4] 42)).cell? ⟨1, 0, none⟩ = some v := (World.cell?_alloc_lt w _ ⟨1, 0, none⟩ hl).trans hv
  go_enter Tryz.func70, Tryz.ntmps70
  go_wp2_with (first
    | (go_at_call 99; (with_reducible refine (kwithin_b _ _ _ hk _).mono ?_); rintro e w1 ⟨rfl, rfl⟩)
    | (go_at_call 100; refine (kplaces_is k0 _ hp.out _).mono ?_; rintro e w1 ⟨rfl, rfl⟩)
    | (go_at_call 101; refine (kmay_b k0 _ hm _).mono ?_; rintro e w1 ⟨rfl, rfl⟩))
  go_quiet ((first | (go_at_call 99; with_reducible exact kquiet_left (kwithin_b _ _ _ w1 _)) | (go_at_call 99; with_reducible exact kquiet_left (kwithin_b _ _ _ w2 _)) | (go_at_call 99; with_reducible exact kquiet_left (kwithin_b _ _ _ w3 _))))
  go_wp2
  go_ret
  exact ⟨rfl, below_drewN ((Below.refl _ _).alloc (Nat.le_refl _) _) _⟩
set_option maxRecDepth 100000 in
set_option maxHeartbeats 400000 in
theorem kway_p_b4 (k0 k1 k2 k3 k4 : Int) (P d : Int) (w : World) (h0 : 0 < P) (h9 : P ≤ 256) (v : Value) (hl : 1 < w.heap.size) (hv : w.cell? ⟨1, 0, none⟩ = some v) (hk : Hid (wB k0 14 = true)) (hp : Hid (placesOf k0 = P)) (hm : Hid ((k0 == 2 || k0 == 3) = false)) (w1 : Hid (wB k1 (P - 1) = true)) (w2 : Hid (wB k2 (1048575) = true)) (w3 : Hid (wB k3 (0) = true)) (hd : Hid (dataMost k0 = d)) (h4 : d < k4) :
    Calls Tryz.prog 70 #[(Value.agg #[.int .i64 k0, .int .i64 k1, .int .i64 k2, .int .i64 k3, .int .u32 k4])] w fun e w' => e = .returned v ∧ Below w.heap.size w w' := by
  have n0 : (w.alloc (.cells #[.int .i64 k0, .int .i64 k1, .int .i64 k2, .int .i64 k3, .int .u32 k4] 42)).cell? ⟨1, 0, none⟩ = some v := (World.cell?_alloc_lt w _ ⟨1, 0, none⟩ hl).trans hv
  have d4 : decide (d < k4) = true := by simp; omega
  go_enter Tryz.func70, Tryz.ntmps70
  go_wp2_with (first
    | (go_at_call 99; (with_reducible refine (kwithin_b _ _ _ hk _).mono ?_); rintro e w1 ⟨rfl, rfl⟩)
    | (go_at_call 100; refine (kplaces_is k0 _ hp.out _).mono ?_; rintro e w1 ⟨rfl, rfl⟩)
    | (go_at_call 101; refine (kmay_b k0 _ hm _).mono ?_; rintro e w1 ⟨rfl, rfl⟩))
  go_quiet ((first | (go_at_call 99; with_reducible exact kquiet_left (kwithin_b _ _ _ w1 _)) | (go_at_call 99; with_reducible exact kquiet_left (kwithin_b _ _ _ w2 _)) | (go_at_call 99; with_reducible exact kquiet_left (kwithin_b _ _ _ w3 _)) | (go_at_call 102; with_reducible exact kquiet_left (kmaxdata_is k0 _ hd.out _))))
  go_wp2
  go_ret
  exact ⟨rfl, below_drewN ((Below.refl _ _).alloc (Nat.le_refl _) _) _⟩
set_option maxRecDepth 100000 in
set_option maxHeartbeats 400000 in
theorem kway_n_ok (k0 k1 k2 k3 k4 : Int) (d : Int) (w : World) (hk : Hid (wB k0 14 = true)) (hp : Hid (placesOf k0 = 0)) (hm : Hid ((k0 == 2 || k0 == 3) = false)) (w1 : Hid (wB k1 (0) = true)) (w2 : Hid (wB k2 (0) = true)) (w3 : Hid (wB k3 (0) = true)) (hd : Hid (dataMost k0 = d)) (h4 : k4 ≤ d) :
    Calls Tryz.prog 70 #[(Value.agg #[.int .i64 k0, .int .i64 k1, .int .i64 k2, .int .i64 k3, .int .u32 k4])] w fun e w' => e = .returned .nilIface ∧ Below w.heap.size w w' := by
  have d4 : decide (d < k4) = false := by simp; omega
  go_enter Tryz.func70, Tryz.ntmps70
  go_wp2_with (first
    | (go_at_call 99; (with_reducible refine (kwithin_b _ _ _ hk _).mono ?_); rintro e w1 ⟨rfl, rfl⟩)
    | (go_at_call 100; refine (kplaces_is k0 _ hp.out _).mono ?_; rintro e w1 ⟨rfl, rfl⟩)
    | (go_at_call 101; refine (kmay_b k0 _ hm _).mono ?_; rintro e w1 ⟨rfl, rfl⟩))
  go_quiet ((first | (go_at_call 99; with_reducible exact kquiet_left (kwithin_b _ _ _ w1 _)) | (go_at_call 99; with_reducible exact kquiet_left (kwithin_b _ _ _ w2 _)) | (go_at_call 99; with_reducible exact kquiet_left (kwithin_b _ _ _ w3 _)) | (go_at_call 102; with_reducible exact kquiet_left (kmaxdata_is k0 _ hd.out _))))
  go_wp2
  go_ret
  exact ⟨rfl, below_drewN ((Below.refl _ _).alloc (Nat.le_refl _) _) _⟩
set_option maxRecDepth 100000 in
set_option maxHeartbeats 400000 in
theorem kway_n_b1 (k0 k1 k2 k3 k4 : Int) (w : World) (v : Value) (hl : 1 < w.heap.size) (hv : w.cell? ⟨1, 0, none⟩ = some v) (hk : Hid (wB k0 14 = true)) (hp : Hid (placesOf k0 = 0)) (hm : Hid ((k0 == 2 || k0 == 3) = false)) (w1 : Hid (wB k1 (0) = false)) :
    Calls Tryz.prog 70 #[(Value.agg #[.int .i64 k0, .int .i64 k1, .int .i64 k2, .int .i64 k3, .int .u32 k4])] w fun e w' => e = .returned v ∧ Below w.heap.size w w' := by
  have n0 : (w.alloc (.cells #[.int .i64 k0, .int .i64 k1, .int .i64 k2, .int .i64 k3, .int .u32 k4] 42)).cell? ⟨1, 0, none⟩ = some v := (World.cell?_alloc_lt w _ ⟨1, 0, none⟩ hl).trans hv
  go_enter Tryz.func70, Tryz.ntmps70
  go_wp2_with (first
    | (go_at_call 99; (with_reducible refine (kwithin_b _ _ _ hk _).mono ?_); rintro e w1 ⟨rfl, rfl⟩)
    | (go_at_call 100; refine (kplaces_is k0 _ hp.out _).mono ?_; rintro e w1 ⟨rfl, rfl⟩)
    | (go_at_call 101; refine (kmay_b k0 _ hm _).mono ?_; rintro e w1 ⟨rfl, rfl⟩))
  go_quiet ((first | (go_at_call 99; with_reducible exact kquiet_left (kwithin_b _ _ _ w1 _))))
  go_wp2
  go_ret
  exact ⟨rfl, below_drewN ((Below.refl _ _).alloc (Nat.le_refl _) _) _⟩
set_option maxRecDepth 100000 in
set_option maxHeartbeats 400000 in
theorem kway_n_b2 (k0 k1 k2 k3 k4 : Int) (w : World) (v : Value) (hl : 1 < w.heap.size) (hv : w.cell? ⟨1, 0, none⟩ = some v) (hk : Hid (wB k0 14 = true)) (hp : Hid (placesOf k0 = 0)) (hm : Hid ((k0 == 2 || k0 == 3) = false)) (w1 : Hid (wB k1 (0) = true)) (w2 : Hid (wB k2 (0) = false)) :
    Calls Tryz.prog 70 #[(Value.agg #[.int .i64 k0, .int .i64 k1, .int .i64 k2, .int .i64 k3, .int .u32 k4])] w fun e w' => e = .returned v ∧ Below w.heap.size w w' := by
  have n0 : (w.alloc (.cells #[.int .i64 k0, .int .i64 k1, .int .i64 k2, .int .i64 k3, .int .u32 k4] 42)).cell? ⟨1, 0, none⟩ = some v := (World.cell?_alloc_lt w _ ⟨1, 0, none⟩ hl).trans hv
  go_enter Tryz.func70, Tryz.ntmps70
  go_wp2_with (first
    | (go_at_call 99; (with_reducible refine (kwithin_b _ _ _ hk _).mono ?_); rintro e w1 ⟨rfl, rfl⟩)
    | (go_at_call 100; refine (kplaces_is k0 _ hp.out _).mono ?_; rintro e w1 ⟨rfl, rfl⟩)
    | (go_at_call 101; refine (kmay_b k0 _ hm _).mono ?_; rintro e w1 ⟨rfl, rfl⟩))
  go_quiet ((first | (go_at_call 99; with_reducible exact kquiet_left (kwithin_b _ _ _ w1 _)) | (go_at_call 99; with_reducible exact kquiet_left (kwithin_b _ _ _ w2 _))))
  go_wp2
  go_ret
  exact ⟨rfl, below_drewN ((Below.refl _ _).alloc (Nat.le_refl _) _) _⟩
set_option maxRecDepth 100000 in
set_option maxHeartbeats 400000 in
theorem kway_n_b3 (k0 k1 k2 k3 k4 : Int) (w : World) (v : Value) (hl : 1 < w.heap.size) (hv : w.cell? ⟨1, 0, none⟩ = some v) (hk : Hid (wB k0 14 = true)) (hp : Hid (placesOf k0 = 0)) (hm : Hid ((k0 == 2 || k0 == 3) = false)) (w1 : Hid (wB k1 (0) = true)) (w2 : Hid (wB k2 (0) = true)) (w3 : Hid (wB k3 (0) = false)) :
    Calls Tryz.prog 70 #[(Value.agg #[.int .i64 k0, .int .i64 k1, .int .i64 k2, .int .i64 k3, .int .u32 k4])] w fun e w' => e = .returned v ∧ Below w.heap.size w w' := by
  have n0 : (w.alloc (.cells #[.int .i64 k0, .int .i64 k1, .int .i64 k2, .int .i64 k3, .int .u32 k4] 42)).cell? ⟨1, 0, none⟩ = some v := (World.cell?_alloc_lt w _ ⟨1, 0, none⟩ hl).trans hv
  go_enter Tryz.func70, Tryz.ntmps70
  go_wp2_with (first
    | (go_at_call 99; (with_reducible refine (kwithin_b _ _ _ hk _).mono ?_); rintro e w1 ⟨rfl, rfl⟩)
    | (go_at_call 100; refine (kplaces_is k0 _ hp.out _).mono ?_; rintro e w1 ⟨rfl, rfl⟩)
    | (go_at_call 101; refine (kmay_b k0 _ hm _).mono ?_; rintro e w1 ⟨rfl, rfl⟩))
  go_quiet ((first | (go_at_call 99; with_reducible exact kquiet_left (kwithin_b _ _ _ w1 _)) | (go_at_call 99; with_reducible exact kquiet_left (kwithin_b _ _ _ w2 _)) | (go_at_call 99; with_reducible exact kquiet_left (kwithin_b _ _ _ w3 _))))
  go_wp2
  go_ret
  exact ⟨rfl, below_drewN ((Below.refl _ _).alloc (Nat.le_refl _) _) _⟩
set_option maxRecDepth 100000 in
set_option maxHeartbeats 400000 in
theorem kway_n_b4 (k0 k1 k2 k3 k4 : Int) (d : Int) (w : World) (v : Value) (hl : 1 < w.heap.size) (hv : w.cell? ⟨1, 0, none⟩ = some v) (hk : Hid (wB k0 14 = true)) (hp : Hid (placesOf k0 = 0)) (hm : Hid ((k0 == 2 || k0 == 3) = false)) (w1 : Hid (wB k1 (0) = true)) (w2 : Hid (wB k2 (0) = true)) (w3 : Hid (wB k3 (0) = true)) (hd : Hid (dataMost k0 = d)) (h4 : d < k4) :
    Calls Tryz.prog 70 #[(Value.agg #[.int .i64 k0, .int .i64 k1, .int .i64 k2, .int .i64 k3, .int .u32 k4])] w fun e w' => e = .returned v ∧ Below w.heap.size w w' := by
  have n0 : (w.alloc (.cells #[.int .i64 k0, .int .i64 k1, .int .i64 k2, .int .i64 k3, .int .u32 k4] 42)).cell? ⟨1, 0, none⟩ = some v := (World.cell?_alloc_lt w _ ⟨1, 0, none⟩ hl).trans hv
  have d4 : decide (d < k4) = true := by simp; omega
  go_enter Tryz.func70, Tryz.ntmps70
  go_wp2_with (first
    | (go_at_call 99; (with_reducible refine (kwithin_b _ _ _ hk _).mono ?_); rintro e w1 ⟨rfl, rfl⟩)
    | (go_at_call 100; refine (kplaces_is k0 _ hp.out _).mono ?_; rintro e w1 ⟨rfl, rfl⟩)
    | (go_at_call 101; refine (kmay_b k0 _ hm _).mono ?_; rintro e w1 ⟨rfl, rfl⟩))
  go_quiet ((first | (go_at_call 99; with_reducible exact kquiet_left (kwithin_b _ _ _ w1 _)) | (go_at_call 99; with_reducible exact kquiet_left (kwithin_b _ _ _ w2 _)) | (go_at_call 99; with_reducible exact kquiet_left (kwithin_b _ _ _ w3 _)) | (go_at_call 102; with_reducible exact kquiet_left (kmaxdata_is k0 _ hd.out _))))
  go_wp2
  go_ret
  exact ⟨rfl, below_drewN ((Below.refl _ _).alloc (Nat.le_refl _) _) _⟩
end Go.Proofs.YtncopdhhchmpeaaGreatDoor
