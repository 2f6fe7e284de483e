import Derived.Test.YtggnaalcdekccaaDoorKeyPage
import Derived.Test.YtggnaalcdekccaaDoorShelf
namespace Go.Proofs.YtggnaalcdekccaaDoor
open Go.ChangeShapes Go.WideShapes Go.ChangeAt Go.RowKit
set_option linter.unusedVariables false
theorem kd3 : (Lib.decDigits 3).toArray = #[51] := by decide +kernel
theorem kd2 : (Lib.decDigits 2).toArray = #[50] := by decide +kernel
theorem kd_text : (⟨#[112, 97, 103, 101]⟩ : ByteArray) ++ ((⟨#[32]⟩ : ByteArray) ++ ⟨#[51]⟩ ++ ⟨#[46]⟩ ++ ⟨#[50]⟩) ++ ⟨#[32, 114, 111]⟩ = ⟨#[112, 97, 103, 101, 32, 51, 46, 50, 32, 114, 111]⟩ := by decide +kernel
theorem kitoa3 (w : World) : Calls Tryd.prog 53 #[.int .i64 3] w fun e w' => e = .returned (.string ⟨#[51]⟩) ∧ w = w' :=
  (Go.Proofs.Tryd.strconv_Itoa_small 3 (by decide) w).mono fun _ _ ⟨he, hw⟩ => ⟨he.trans (by rw [kd3]), hw.symm⟩
theorem kitoa2 (w : World) : Calls Tryd.prog 53 #[.int .i64 2] w fun e w' => e = .returned (.string ⟨#[50]⟩) ∧ w = w' :=
  (Go.Proofs.Tryd.strconv_Itoa_small 2 (by decide) w).mono fun _ _ ⟨he, hw⟩ => ⟨he.trans (by rw [kd2]), hw.symm⟩
set_option maxRecDepth 100000 in
/-- The text of the page's key: the names of the kinds lie in their cells. -/
theorem ktext_page (w : World) (hn : w.cell? ⟨2, 3, none⟩ = some (.string ⟨#[112, 97, 103, 101]⟩)) (hl : 2 < w.heap.size) : Calls Tryd.prog 37 #[.agg #[.int .i64 3, .int .i64 3, .int .i64 2, .int .i64 1, .int .u32 0]] w fun e w' => e = .returned (.string ⟨#[112, 97, 103, 101, 32, 51, 46, 50, 32, 114, 111]⟩) ∧ Below w.heap.size w w' := by
  have S0 := Lib.hid (startSP w 3 3 2 1 0)
  have n0 : (w.alloc (.cells #[.int .i64 3, .int .i64 3, .int .i64 2, .int .i64 1, .int .u32 0] 47)).cell? ⟨2, 3, none⟩ = some (.string ⟨#[112, 97, 103, 101]⟩) := (World.cell?_alloc_lt w _ ⟨2, 3, none⟩ hl).trans hn
  have N0 := Lib.hid n0
  clear n0
  go_enter Tryd.func37, Tryd.ntmps37
  go_wp2_with (first
    | (go_at_call 32; refine (kvalid_page _).mono ?_; rintro e w1 ⟨rfl, hb⟩; have hS := keepSP 3 3 2 1 0 S0.out hb; have hK := hS.2; have hn1 := ((bcell hb).1 2 3 (by simp; omega)).trans N0.out; have hB := Lib.hid hS.1; clear hb hS)
    | (go_at_call 49; refine (kplaces_is 3 256 rfl _).mono ?_; rintro e w1 ⟨rfl, rfl⟩)
    | (go_at_call 54; refine (klacks_ro _).mono ?_; rintro e w1 ⟨rfl, rfl⟩))
  have ST : Hid (Below w.heap.size w w1.drew ∧ w.heap.size < w1.drew.heap.size ∧ w1.drew.cell? ⟨w.heap.size, 0, none⟩ = some (.int .i64 3) ∧ w1.drew.cell? ⟨w.heap.size, 1, none⟩ = some (.int .i64 3) ∧ w1.drew.cell? ⟨w.heap.size, 2, none⟩ = some (.int .i64 2) ∧ w1.drew.cell? ⟨w.heap.size, 3, none⟩ = some (.int .i64 1) ∧ w1.drew.cell? ⟨w.heap.size, 4, none⟩ = some (.int .u32 0)) := Lib.hid ⟨hB.out.drew, hK⟩
  clear hB hK hn1
  go_region_held3 (fun w' => Below w.heap.size w w' ∧ w.heap.size < w'.heap.size ∧ w'.cell? ⟨w.heap.size, 0, none⟩ = some (.int .i64 3) ∧ w'.cell? ⟨w.heap.size, 1, none⟩ = some (.int .i64 3) ∧ w'.cell? ⟨w.heap.size, 2, none⟩ = some (.int .i64 2) ∧ w'.cell? ⟨w.heap.size, 3, none⟩ = some (.int .i64 1) ∧ w'.cell? ⟨w.heap.size, 4, none⟩ = some (.int .u32 0)) (first | exact ST.out | assumption | exact keepSP 3 3 2 1 0 (by assumption) hb)
    (first
      | (go_at_call 53; refine (below_of (kitoa3 _)).mono ?_; rintro e w' ⟨rfl, hb⟩)
      | (go_at_call 53; refine (below_of (kitoa2 _)).mono ?_; rintro e w' ⟨rfl, hb⟩))
  go_wp2_with (first | (go_at_call 54; refine (klacks_ro _).mono ?_; rintro e w1 ⟨rfl, rfl⟩))
  go_ret
  refine ⟨congrArg (fun s => Ending.returned (Value.string s)) kd_text, ?_⟩
  apply And.left
  assumption
set_option maxRecDepth 100000 in
theorem kfirst_any (w : World) (hn : w.cell? ⟨2, 3, none⟩ = some (.string ⟨#[112, 97, 103, 101]⟩)) (hl : 2 < w.heap.size) : Calls Tryd.prog 26 #[] w fun e w' => e = .returned (.bool true) ∧ Below w.heap.size w w' := by
  go_enter Tryd.func26, Tryd.ntmps26
  go_wp2_with (first | (go_at_call 37; refine (ktext_page _ hn hl).mono ?_; rintro e w1 ⟨rfl, hb⟩))
  go_ret
  exact ⟨rfl, hb⟩
end Go.Proofs.YtggnaalcdekccaaDoor
