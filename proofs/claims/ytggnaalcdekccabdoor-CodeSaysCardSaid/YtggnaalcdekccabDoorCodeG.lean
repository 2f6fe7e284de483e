/-
  turnkeyref1.InstrText of any right instruction.
-/
import Derived.Test.YtggnaalcdekccabDoorCodeF
namespace Go.Proofs.YtggnaalcdekccabDoor
open Go.ChangeShapes Go.WideShapes Go.ChangeAt Go.RowKit
set_option linter.unusedVariables false
set_option linter.unusedSimpArgs false
def wnS (n : Int) : ByteArray := ⟨(wNm.getD n.toNat []).toArray⟩
def mnS (n : Int) : ByteArray := ⟨(mNm.getD n.toNat []).toArray⟩
theorem r_is (n : Nat) (hn : n ≤ 4095) (s : ByteArray) (hs : Hid (tellB n 1 = s)) (w : World) (hT : Tells w) : Calls Tryd.prog 33 #[.int .i64 n] w fun e w' => e = .returned (.string s) ∧ Below w.heap.size w w' := by
  obtain ⟨d, hd⟩ : ∃ d, Hid (decS n = d) := ⟨_, Lib.hid rfl⟩
  have hds : d.size ≤ 20 := by rw [← hd.out]; exact dec_size n (by omega)
  have z1 : (⟨#[32, 114]⟩ : ByteArray).size = 2 := rfl
  have f1 := cat_run ⟨#[32, 114]⟩ d (by omega)
  clear z1
  go_enter Tryd.func33, Tryd.ntmps33
  go_wp2_with (first | (go_at_call 32; (with_reducible refine (itoa_op n d hd (by omega) _ hT.tab).mono ?_); rintro e w1 ⟨rfl, hb⟩))
  go_ret
  refine ⟨ret_str ?_, hb⟩
  rw [← hs.out, ← hd.out]
  rfl
theorem k_is (n : Nat) (hn : n ≤ 4095) (s : ByteArray) (hs : Hid (tellB n 2 = s)) (w : World) (hT : Tells w) : Calls Tryd.prog 35 #[.int .i64 n] w fun e w' => e = .returned (.string s) ∧ Below w.heap.size w w' := by
  obtain ⟨d, hd⟩ : ∃ d, Hid (decS n = d) := ⟨_, Lib.hid rfl⟩
  have hds : d.size ≤ 20 := by rw [← hd.out]; exact dec_size n (by omega)
  have z1 : (⟨#[32, 107]⟩ : ByteArray).size = 2 := rfl
  have f1 := cat_run ⟨#[32, 107]⟩ d (by omega)
  clear z1
  go_enter Tryd.func35, Tryd.ntmps35
  go_wp2_with (first | (go_at_call 32; (with_reducible refine (itoa_op n d hd (by omega) _ hT.tab).mono ?_); rintro e w1 ⟨rfl, hb⟩))
  go_ret
  refine ⟨ret_str ?_, hb⟩
  rw [← hs.out, ← hd.out]
  rfl
set_option maxRecDepth 100000 in
theorem o_is (n : Nat) (hn : n < 12) (s : ByteArray) (hs : Hid (wnS n = s)) (w : World) : Calls Tryd.prog 34 #[.int .i64 n] w fun e w' => e = .returned (.string s) ∧ Below w.heap.size w w' := by
  rw [← hs.out]
  have k0 : (0 : Int) ≤ (n : Int) := by omega
  have k1 : (n : Int) < 12 := by omega
  have d0 : decide ((n : Int) < 0) = false := by simp
  have d1 : decide ((12 : Int) ≤ (n : Int)) = false := by simp; omega
  clear hs
  go_enter Tryd.func34, Tryd.ntmps34
  go_wp2_with fail
  go_ret
  refine ⟨?_, (Below.refl _ _).alloc (Nat.le_refl _) _⟩
  clear d0 d1 k0 k1
  obtain rfl | rfl | rfl | rfl | rfl | rfl | rfl | rfl | rfl | rfl | rfl | rfl : n = 0 ∨ n = 1 ∨ n = 2 ∨ n = 3 ∨ n = 4 ∨ n = 5 ∨ n = 6 ∨ n = 7 ∨ n = 8 ∨ n = 9 ∨ n = 10 ∨ n = 11 := by omega
  all_goals rfl
set_option maxRecDepth 100000 in
theorem h_is (n : Nat) (hn : n < 3) (s : ByteArray) (hs : Hid (mnS n = s)) (w : World) : Calls Tryd.prog 36 #[.int .i64 n] w fun e w' => e = .returned (.string s) ∧ Below w.heap.size w w' := by
  rw [← hs.out]
  have k0 : (0 : Int) ≤ (n : Int) := by omega
  have k1 : (n : Int) < 3 := by omega
  have d0 : decide ((n : Int) < 0) = false := by simp
  have d1 : decide ((3 : Int) ≤ (n : Int)) = false := by simp; omega
  clear hs
  go_enter Tryd.func36, Tryd.ntmps36
  go_wp2_with fail
  go_ret
  refine ⟨?_, (Below.refl _ _).alloc (Nat.le_refl _) _⟩
  clear d0 d1 k0 k1
  obtain rfl | rfl | rfl : n = 0 ∨ n = 1 ∨ n = 2 := by omega
  all_goals rfl
theorem tell0 (x : Int) : tellB x 0 = ⟨#[]⟩ := rfl
theorem ba_ext {a b : ByteArray} (h : a.data.toList = b.data.toList) : a = b := ByteArray.ext (Array.toList_inj.1 h)
section
variable {op a b c i : Int} {w v v' : World}
theorem skeep (h : VT w v ∧ (w.heap.size < v.heap.size ∧ v.cell? ⟨w.heap.size, 0, none⟩ = some (.int .i64 op) ∧ v.cell? ⟨w.heap.size, 1, none⟩ = some (.int .i64 a) ∧ v.cell? ⟨w.heap.size, 2, none⟩ = some (.int .i64 b) ∧ v.cell? ⟨w.heap.size, 3, none⟩ = some (.int .i64 c) ∧ v.cell? ⟨w.heap.size, 4, none⟩ = some (.int .i64 i))) (hb : Below v.heap.size v v') : VT w v' ∧ (w.heap.size < v'.heap.size ∧ v'.cell? ⟨w.heap.size, 0, none⟩ = some (.int .i64 op) ∧ v'.cell? ⟨w.heap.size, 1, none⟩ = some (.int .i64 a) ∧ v'.cell? ⟨w.heap.size, 2, none⟩ = some (.int .i64 b) ∧ v'.cell? ⟨w.heap.size, 3, none⟩ = some (.int .i64 c) ∧ v'.cell? ⟨w.heap.size, 4, none⟩ = some (.int .i64 i)) := ⟨h.1.step hb, keep5 h.2 hb⟩
theorem sbegin (hT : Tells w) (op a b c i : Int) : VT w (w.alloc (.cells #[.int .i64 op, .int .i64 a, .int .i64 b, .int .i64 c, .int .i64 i] 27)) ∧ (w.heap.size < (w.alloc (.cells #[.int .i64 op, .int .i64 a, .int .i64 b, .int .i64 c, .int .i64 i] 27)).heap.size ∧ (w.alloc (.cells #[.int .i64 op, .int .i64 a, .int .i64 b, .int .i64 c, .int .i64 i] 27)).cell? ⟨w.heap.size, 0, none⟩ = some (.int .i64 op) ∧ (w.alloc (.cells #[.int .i64 op, .int .i64 a, .int .i64 b, .int .i64 c, .int .i64 i] 27)).cell? ⟨w.heap.size, 1, none⟩ = some (.int .i64 a) ∧ (w.alloc (.cells #[.int .i64 op, .int .i64 a, .int .i64 b, .int .i64 c, .int .i64 i] 27)).cell? ⟨w.heap.size, 2, none⟩ = some (.int .i64 b) ∧ (w.alloc (.cells #[.int .i64 op, .int .i64 a, .int .i64 b, .int .i64 c, .int .i64 i] 27)).cell? ⟨w.heap.size, 3, none⟩ = some (.int .i64 c) ∧ (w.alloc (.cells #[.int .i64 op, .int .i64 a, .int .i64 b, .int .i64 c, .int .i64 i] 27)).cell? ⟨w.heap.size, 4, none⟩ = some (.int .i64 i)) := ⟨⟨(Below.refl _ _).alloc (Nat.le_refl _) _, hT.below ((Below.refl _ _).alloc (Nat.le_refl _) _)⟩, by simp, by simp, by simp, by simp, by simp, by simp⟩
theorem s_tells (h : VT w v ∧ (w.heap.size < v.heap.size ∧ v.cell? ⟨w.heap.size, 0, none⟩ = some (.int .i64 op) ∧ v.cell? ⟨w.heap.size, 1, none⟩ = some (.int .i64 a) ∧ v.cell? ⟨w.heap.size, 2, none⟩ = some (.int .i64 b) ∧ v.cell? ⟨w.heap.size, 3, none⟩ = some (.int .i64 c) ∧ v.cell? ⟨w.heap.size, 4, none⟩ = some (.int .i64 i))) : Tells v := h.1.2
theorem s_bel (h : VT w v ∧ (w.heap.size < v.heap.size ∧ v.cell? ⟨w.heap.size, 0, none⟩ = some (.int .i64 op) ∧ v.cell? ⟨w.heap.size, 1, none⟩ = some (.int .i64 a) ∧ v.cell? ⟨w.heap.size, 2, none⟩ = some (.int .i64 b) ∧ v.cell? ⟨w.heap.size, 3, none⟩ = some (.int .i64 c) ∧ v.cell? ⟨w.heap.size, 4, none⟩ = some (.int .i64 i))) : Below w.heap.size w v := h.1.1
end
set_option maxRecDepth 100000 in
set_option maxHeartbeats 2000000 in
theorem it_1 (a b c i : Nat) (hok : okB 1 a b c i = true) (w : World) (hT : Tells w) : Calls Tryd.prog 18 #[.agg #[.int .i64 1, .int .i64 a, .int .i64 b, .int .i64 c, .int .i64 i]] w fun e w' => e = .returned (.string (textC 1 a b c i)) ∧ Below w.heap.size w w' := by
  obtain ⟨p1, p2, p3, p4⟩ := ok_parts hok
  have gb := ok_bounds hok
  obtain ⟨d, hd⟩ : ∃ d, Hid (decS i = d) := ⟨_, Lib.hid rfl⟩
  have hds : d.size ≤ 20 := by rw [← hd.out]; exact dec_size i (by omega)
  obtain ⟨da, ea⟩ : ∃ d, Hid (tellB a 1 = d) := ⟨_, Lib.hid rfl⟩
  have sa : da.size ≤ 30 := by rw [← ea.out]; exact tell_size a 1 (p1)
  have z0 : (⟨#[32]⟩ : ByteArray).size = 1 := rfl
  have f0 := cat_run ⟨#[32]⟩ d (by omega)
  have zc : (⟨#[108, 105]⟩ : ByteArray).size = 2 := rfl
  have f1 := cat_run ((⟨#[108, 105]⟩ : ByteArray)) da (by first | omega | (simp only [ByteArray.size_append]; omega))
  have f2 := cat_run ((⟨#[108, 105]⟩ : ByteArray) ++ da) (⟨#[32]⟩ ++ d) (by first | omega | (simp only [ByteArray.size_append]; omega))
  have HE : Hid ((⟨#[108, 105]⟩ : ByteArray) ++ da ++ (⟨#[32]⟩ ++ d) = textC 1 a b c i) := Lib.hid (by
    rw [← hd.out, ← ea.out]
    refine ba_ext ?_
    rw [show textC 1 a b c i = textC ((1 : Nat) : Int) a b c i from rfl, textC_list]
    simp only [ba_list]
    simp [txC, tellB, tellL, fNm, fA, fB, fC, fI, wnS, mnS, decS])
  have hS := sbegin hT 1 a b c i
  have hk := hS.2
  clear z0 zc hok p1 p2 p3 p4 hT
  go_enter Tryd.func18, Tryd.ntmps18
  go_wp2_with (first | (go_at_call 32; (with_reducible refine (itoa_op i d hd (by omega) _ (s_tells hS).tab).mono ?_); rintro e w1 ⟨rfl, hb⟩; replace hS := skeep hS hb; clear hk; have hk := hS.2; clear hb) | (go_at_call 33; (with_reducible refine (r_is a (by omega) da ea _ (s_tells hS)).mono ?_); rintro e w2 ⟨rfl, hb⟩; replace hS := skeep hS hb; clear hk; have hk := hS.2; clear hb))
  go_ret
  exact ⟨ret_str HE.out, s_bel hS⟩
set_option maxRecDepth 100000 in
set_option maxHeartbeats 2000000 in
theorem it_2 (a b c i : Nat) (hok : okB 2 a b c i = true) (w : World) (hT : Tells w) : Calls Tryd.prog 18 #[.agg #[.int .i64 2, .int .i64 a, .int .i64 b, .int .i64 c, .int .i64 i]] w fun e w' => e = .returned (.string (textC 2 a b c i)) ∧ Below w.heap.size w w' := by
  obtain ⟨p1, p2, p3, p4⟩ := ok_parts hok
  have gb := ok_bounds hok
  obtain ⟨d, hd⟩ : ∃ d, Hid (decS i = d) := ⟨_, Lib.hid rfl⟩
  have hds : d.size ≤ 20 := by rw [← hd.out]; exact dec_size i (by omega)
  obtain ⟨da, ea⟩ : ∃ d, Hid (tellB a 1 = d) := ⟨_, Lib.hid rfl⟩
  have sa : da.size ≤ 30 := by rw [← ea.out]; exact tell_size a 1 (p1)
  have z0 : (⟨#[32]⟩ : ByteArray).size = 1 := rfl
  have f0 := cat_run ⟨#[32]⟩ d (by omega)
  have zc : (⟨#[108, 105, 104]⟩ : ByteArray).size = 3 := rfl
  have f1 := cat_run ((⟨#[108, 105, 104]⟩ : ByteArray)) da (by first | omega | (simp only [ByteArray.size_append]; omega))
  have f2 := cat_run ((⟨#[108, 105, 104]⟩ : ByteArray) ++ da) (⟨#[32]⟩ ++ d) (by first | omega | (simp only [ByteArray.size_append]; omega))
  have HE : Hid ((⟨#[108, 105, 104]⟩ : ByteArray) ++ da ++ (⟨#[32]⟩ ++ d) = textC 2 a b c i) := Lib.hid (by
    rw [← hd.out, ← ea.out]
    refine ba_ext ?_
    rw [show textC 2 a b c i = textC ((2 : Nat) : Int) a b c i from rfl, textC_list]
    simp only [ba_list]
    simp [txC, tellB, tellL, fNm, fA, fB, fC, fI, wnS, mnS, decS])
  have hS := sbegin hT 2 a b c i
  have hk := hS.2
  clear z0 zc hok p1 p2 p3 p4 hT
  go_enter Tryd.func18, Tryd.ntmps18
  go_wp2_with (first | (go_at_call 32; (with_reducible refine (itoa_op i d hd (by omega) _ (s_tells hS).tab).mono ?_); rintro e w1 ⟨rfl, hb⟩; replace hS := skeep hS hb; clear hk; have hk := hS.2; clear hb) | (go_at_call 33; (with_reducible refine (r_is a (by omega) da ea _ (s_tells hS)).mono ?_); rintro e w2 ⟨rfl, hb⟩; replace hS := skeep hS hb; clear hk; have hk := hS.2; clear hb))
  go_ret
  exact ⟨ret_str HE.out, s_bel hS⟩
set_option maxRecDepth 100000 in
set_option maxHeartbeats 2000000 in
theorem it_3 (a b c i : Nat) (hok : okB 3 a b c i = true) (w : World) (hT : Tells w) : Calls Tryd.prog 18 #[.agg #[.int .i64 3, .int .i64 a, .int .i64 b, .int .i64 c, .int .i64 i]] w fun e w' => e = .returned (.string (textC 3 a b c i)) ∧ Below w.heap.size w w' := by
  obtain ⟨p1, p2, p3, p4⟩ := ok_parts hok
  have gb := ok_bounds hok
  have hwi : i < 12 := by simp only [fitB, decide_eq_true_eq] at p4; have : hiOf (fI.getD 3 0) = 11 := rfl; omega
  obtain ⟨d, hd⟩ : ∃ d, Hid (decS i = d) := ⟨_, Lib.hid rfl⟩
  have hds : d.size ≤ 20 := by rw [← hd.out]; exact dec_size i (by omega)
  obtain ⟨di, ei⟩ : ∃ d, Hid (wnS i = d) := ⟨_, Lib.hid rfl⟩
  have si : di.size ≤ 30 := by rw [← ei.out]; exact Nat.le_trans (wn_size ⟨i, hwi⟩) (by decide)
  obtain ⟨da, ea⟩ : ∃ d, Hid (tellB a 1 = d) := ⟨_, Lib.hid rfl⟩
  have sa : da.size ≤ 30 := by rw [← ea.out]; exact tell_size a 1 (p1)
  obtain ⟨db, eb⟩ : ∃ d, Hid (tellB b 1 = d) := ⟨_, Lib.hid rfl⟩
  have sb : db.size ≤ 30 := by rw [← eb.out]; exact tell_size b 1 (p2)
  obtain ⟨dc, ec⟩ : ∃ d, Hid (tellB c 1 = d) := ⟨_, Lib.hid rfl⟩
  have sc : dc.size ≤ 30 := by rw [← ec.out]; exact tell_size c 1 (p3)
  have z0 : (⟨#[32]⟩ : ByteArray).size = 1 := rfl
  have f0 := cat_run ⟨#[32]⟩ d (by omega)
  have zc : (⟨#[97, 108, 117, 32]⟩ : ByteArray).size = 4 := rfl
  have f1 := cat_run ((⟨#[97, 108, 117, 32]⟩ : ByteArray)) di (by first | omega | (simp only [ByteArray.size_append]; omega))
  have f2 := cat_run ((⟨#[97, 108, 117, 32]⟩ : ByteArray) ++ di) da (by first | omega | (simp only [ByteArray.size_append]; omega))
  have f3 := cat_run ((⟨#[97, 108, 117, 32]⟩ : ByteArray) ++ di ++ da) db (by first | omega | (simp only [ByteArray.size_append]; omega))
  have f4 := cat_run ((⟨#[97, 108, 117, 32]⟩ : ByteArray) ++ di ++ da ++ db) dc (by first | omega | (simp only [ByteArray.size_append]; omega))
  have HE : Hid ((⟨#[97, 108, 117, 32]⟩ : ByteArray) ++ di ++ da ++ db ++ dc = textC 3 a b c i) := Lib.hid (by
    rw [← ei.out, ← ea.out, ← eb.out, ← ec.out]
    refine ba_ext ?_
    rw [show textC 3 a b c i = textC ((3 : Nat) : Int) a b c i from rfl, textC_list]
    simp only [ba_list]
    simp [txC, tellB, tellL, fNm, fA, fB, fC, fI, wnS, mnS, decS])
  have hS := sbegin hT 3 a b c i
  have hk := hS.2
  clear z0 zc hok p1 p2 p3 p4 hT
  go_enter Tryd.func18, Tryd.ntmps18
  go_wp2_with (first | (go_at_call 32; (with_reducible refine (itoa_op i d hd (by omega) _ (s_tells hS).tab).mono ?_); rintro e w1 ⟨rfl, hb⟩; replace hS := skeep hS hb; clear hk; have hk := hS.2; clear hb))
  have ST := Lib.hid (skeep hS ((Below.refl _ _).drew))
  clear hS hk
  go_region_held3 (fun w' => VT w w' ∧ (w.heap.size < w'.heap.size ∧ w'.cell? ⟨w.heap.size, 0, none⟩ = some (.int .i64 3) ∧ w'.cell? ⟨w.heap.size, 1, none⟩ = some (.int .i64 a) ∧ w'.cell? ⟨w.heap.size, 2, none⟩ = some (.int .i64 b) ∧ w'.cell? ⟨w.heap.size, 3, none⟩ = some (.int .i64 c) ∧ w'.cell? ⟨w.heap.size, 4, none⟩ = some (.int .i64 i))) (first | exact ST.out | exact skeep (by assumption) hb) (first | (go_at_call 34; (with_reducible refine (o_is i hwi di ei _).mono ?_); rintro e w' ⟨rfl, hb⟩) | (go_at_call 33; (with_reducible refine (r_is a (by omega) da ea _ (s_tells (by assumption))).mono ?_); rintro e w' ⟨rfl, hb⟩) | (go_at_call 33; (with_reducible refine (r_is b (by omega) db eb _ (s_tells (by assumption))).mono ?_); rintro e w' ⟨rfl, hb⟩) | (go_at_call 33; (with_reducible refine (r_is c (by omega) dc ec _ (s_tells (by assumption))).mono ?_); rintro e w' ⟨rfl, hb⟩))
  have hB : VT w w' := And.left (by assumption)
  have HB := Lib.hid hB
  clear hB
  go_wp2_with fail
  go_ret
  exact ⟨ret_str HE.out, HB.out.1⟩
set_option maxRecDepth 100000 in
set_option maxHeartbeats 2000000 in
theorem it_4 (a b c i : Nat) (hok : okB 4 a b c i = true) (w : World) (hT : Tells w) : Calls Tryd.prog 18 #[.agg #[.int .i64 4, .int .i64 a, .int .i64 b, .int .i64 c, .int .i64 i]] w fun e w' => e = .returned (.string (textC 4 a b c i)) ∧ Below w.heap.size w w' := by
  obtain ⟨p1, p2, p3, p4⟩ := ok_parts hok
  have gb := ok_bounds hok
  obtain ⟨d, hd⟩ : ∃ d, Hid (decS i = d) := ⟨_, Lib.hid rfl⟩
  have hds : d.size ≤ 20 := by rw [← hd.out]; exact dec_size i (by omega)
  have z0 : (⟨#[32]⟩ : ByteArray).size = 1 := rfl
  have f0 := cat_run ⟨#[32]⟩ d (by omega)
  have zc : (⟨#[106, 109, 112]⟩ : ByteArray).size = 3 := rfl
  have f1 := cat_run ((⟨#[106, 109, 112]⟩ : ByteArray)) (⟨#[32]⟩ ++ d) (by first | omega | (simp only [ByteArray.size_append]; omega))
  have HE : Hid ((⟨#[106, 109, 112]⟩ : ByteArray) ++ (⟨#[32]⟩ ++ d) = textC 4 a b c i) := Lib.hid (by
    rw [← hd.out]
    refine ba_ext ?_
    rw [show textC 4 a b c i = textC ((4 : Nat) : Int) a b c i from rfl, textC_list]
    simp only [ba_list]
    simp [txC, tellB, tellL, fNm, fA, fB, fC, fI, wnS, mnS, decS])
  have hS := sbegin hT 4 a b c i
  have hk := hS.2
  clear z0 zc hok p1 p2 p3 p4 hT
  go_enter Tryd.func18, Tryd.ntmps18
  go_wp2_with (first | (go_at_call 32; (with_reducible refine (itoa_op i d hd (by omega) _ (s_tells hS).tab).mono ?_); rintro e w1 ⟨rfl, hb⟩; replace hS := skeep hS hb; clear hk; have hk := hS.2; clear hb))
  go_ret
  exact ⟨ret_str HE.out, s_bel hS⟩
set_option maxRecDepth 100000 in
set_option maxHeartbeats 2000000 in
theorem it_5 (a b c i : Nat) (hok : okB 5 a b c i = true) (w : World) (hT : Tells w) : Calls Tryd.prog 18 #[.agg #[.int .i64 5, .int .i64 a, .int .i64 b, .int .i64 c, .int .i64 i]] w fun e w' => e = .returned (.string (textC 5 a b c i)) ∧ Below w.heap.size w w' := by
  obtain ⟨p1, p2, p3, p4⟩ := ok_parts hok
  have gb := ok_bounds hok
  obtain ⟨d, hd⟩ : ∃ d, Hid (decS i = d) := ⟨_, Lib.hid rfl⟩
  have hds : d.size ≤ 20 := by rw [← hd.out]; exact dec_size i (by omega)
  obtain ⟨da, ea⟩ : ∃ d, Hid (tellB a 1 = d) := ⟨_, Lib.hid rfl⟩
  have sa : da.size ≤ 30 := by rw [← ea.out]; exact tell_size a 1 (p1)
  have z0 : (⟨#[32]⟩ : ByteArray).size = 1 := rfl
  have f0 := cat_run ⟨#[32]⟩ d (by omega)
  have zc : (⟨#[106, 122]⟩ : ByteArray).size = 2 := rfl
  have f1 := cat_run ((⟨#[106, 122]⟩ : ByteArray)) da (by first | omega | (simp only [ByteArray.size_append]; omega))
  have f2 := cat_run ((⟨#[106, 122]⟩ : ByteArray) ++ da) (⟨#[32]⟩ ++ d) (by first | omega | (simp only [ByteArray.size_append]; omega))
  have HE : Hid ((⟨#[106, 122]⟩ : ByteArray) ++ da ++ (⟨#[32]⟩ ++ d) = textC 5 a b c i) := Lib.hid (by
    rw [← hd.out, ← ea.out]
    refine ba_ext ?_
    rw [show textC 5 a b c i = textC ((5 : Nat) : Int) a b c i from rfl, textC_list]
    simp only [ba_list]
    simp [txC, tellB, tellL, fNm, fA, fB, fC, fI, wnS, mnS, decS])
  have hS := sbegin hT 5 a b c i
  have hk := hS.2
  clear z0 zc hok p1 p2 p3 p4 hT
  go_enter Tryd.func18, Tryd.ntmps18
  go_wp2_with (first | (go_at_call 32; (with_reducible refine (itoa_op i d hd (by omega) _ (s_tells hS).tab).mono ?_); rintro e w1 ⟨rfl, hb⟩; replace hS := skeep hS hb; clear hk; have hk := hS.2; clear hb) | (go_at_call 33; (with_reducible refine (r_is a (by omega) da ea _ (s_tells hS)).mono ?_); rintro e w2 ⟨rfl, hb⟩; replace hS := skeep hS hb; clear hk; have hk := hS.2; clear hb))
  go_ret
  exact ⟨ret_str HE.out, s_bel hS⟩
set_option maxRecDepth 100000 in
set_option maxHeartbeats 2000000 in
theorem it_6 (a b c i : Nat) (hok : okB 6 a b c i = true) (w : World) (hT : Tells w) : Calls Tryd.prog 18 #[.agg #[.int .i64 6, .int .i64 a, .int .i64 b, .int .i64 c, .int .i64 i]] w fun e w' => e = .returned (.string (textC 6 a b c i)) ∧ Below w.heap.size w w' := by
  obtain ⟨p1, p2, p3, p4⟩ := ok_parts hok
  have gb := ok_bounds hok
  obtain ⟨d, hd⟩ : ∃ d, Hid (decS i = d) := ⟨_, Lib.hid rfl⟩
  have hds : d.size ≤ 20 := by rw [← hd.out]; exact dec_size i (by omega)
  obtain ⟨da, ea⟩ : ∃ d, Hid (tellB a 1 = d) := ⟨_, Lib.hid rfl⟩
  have sa : da.size ≤ 30 := by rw [← ea.out]; exact tell_size a 1 (p1)
  obtain ⟨db, eb⟩ : ∃ d, Hid (tellB b 1 = d) := ⟨_, Lib.hid rfl⟩
  have sb : db.size ≤ 30 := by rw [← eb.out]; exact tell_size b 1 (p2)
  have z0 : (⟨#[32]⟩ : ByteArray).size = 1 := rfl
  have f0 := cat_run ⟨#[32]⟩ d (by omega)
  have zc : (⟨#[108, 111, 97, 100]⟩ : ByteArray).size = 4 := rfl
  have f1 := cat_run ((⟨#[108, 111, 97, 100]⟩ : ByteArray)) da (by first | omega | (simp only [ByteArray.size_append]; omega))
  have f2 := cat_run ((⟨#[108, 111, 97, 100]⟩ : ByteArray) ++ da) db (by first | omega | (simp only [ByteArray.size_append]; omega))
  have f3 := cat_run ((⟨#[108, 111, 97, 100]⟩ : ByteArray) ++ da ++ db) (⟨#[32]⟩ ++ d) (by first | omega | (simp only [ByteArray.size_append]; omega))
  have HE : Hid ((⟨#[108, 111, 97, 100]⟩ : ByteArray) ++ da ++ db ++ (⟨#[32]⟩ ++ d) = textC 6 a b c i) := Lib.hid (by
    rw [← hd.out, ← ea.out, ← eb.out]
    refine ba_ext ?_
    rw [show textC 6 a b c i = textC ((6 : Nat) : Int) a b c i from rfl, textC_list]
    simp only [ba_list]
    simp [txC, tellB, tellL, fNm, fA, fB, fC, fI, wnS, mnS, decS])
  have hS := sbegin hT 6 a b c i
  have hk := hS.2
  clear z0 zc hok p1 p2 p3 p4 hT
  go_enter Tryd.func18, Tryd.ntmps18
  go_wp2_with (first | (go_at_call 32; (with_reducible refine (itoa_op i d hd (by omega) _ (s_tells hS).tab).mono ?_); rintro e w1 ⟨rfl, hb⟩; replace hS := skeep hS hb; clear hk; have hk := hS.2; clear hb))
  have ST := Lib.hid (skeep hS ((Below.refl _ _).drew))
  clear hS hk
  go_region_held3 (fun w' => VT w w' ∧ (w.heap.size < w'.heap.size ∧ w'.cell? ⟨w.heap.size, 0, none⟩ = some (.int .i64 6) ∧ w'.cell? ⟨w.heap.size, 1, none⟩ = some (.int .i64 a) ∧ w'.cell? ⟨w.heap.size, 2, none⟩ = some (.int .i64 b) ∧ w'.cell? ⟨w.heap.size, 3, none⟩ = some (.int .i64 c) ∧ w'.cell? ⟨w.heap.size, 4, none⟩ = some (.int .i64 i))) (first | exact ST.out | exact skeep (by assumption) hb) (first | (go_at_call 33; (with_reducible refine (r_is a (by omega) da ea _ (s_tells (by assumption))).mono ?_); rintro e w' ⟨rfl, hb⟩) | (go_at_call 33; (with_reducible refine (r_is b (by omega) db eb _ (s_tells (by assumption))).mono ?_); rintro e w' ⟨rfl, hb⟩))
  have hB : VT w w' := And.left (by assumption)
  have HB := Lib.hid hB
  clear hB
  go_wp2_with fail
  go_ret
  exact ⟨ret_str HE.out, HB.out.1⟩
set_option maxRecDepth 100000 in
set_option maxHeartbeats 2000000 in
theorem it_7 (a b c i : Nat) (hok : okB 7 a b c i = true) (w : World) (hT : Tells w) : Calls Tryd.prog 18 #[.agg #[.int .i64 7, .int .i64 a, .int .i64 b, .int .i64 c, .int .i64 i]] w fun e w' => e = .returned (.string (textC 7 a b c i)) ∧ Below w.heap.size w w' := by
  obtain ⟨p1, p2, p3, p4⟩ := ok_parts hok
  have gb := ok_bounds hok
  obtain ⟨d, hd⟩ : ∃ d, Hid (decS i = d) := ⟨_, Lib.hid rfl⟩
  have hds : d.size ≤ 20 := by rw [← hd.out]; exact dec_size i (by omega)
  obtain ⟨da, ea⟩ : ∃ d, Hid (tellB a 1 = d) := ⟨_, Lib.hid rfl⟩
  have sa : da.size ≤ 30 := by rw [← ea.out]; exact tell_size a 1 (p1)
  obtain ⟨db, eb⟩ : ∃ d, Hid (tellB b 1 = d) := ⟨_, Lib.hid rfl⟩
  have sb : db.size ≤ 30 := by rw [← eb.out]; exact tell_size b 1 (p2)
  have z0 : (⟨#[32]⟩ : ByteArray).size = 1 := rfl
  have f0 := cat_run ⟨#[32]⟩ d (by omega)
  have zc : (⟨#[115, 97, 118, 101]⟩ : ByteArray).size = 4 := rfl
  have f1 := cat_run ((⟨#[115, 97, 118, 101]⟩ : ByteArray)) da (by first | omega | (simp only [ByteArray.size_append]; omega))
  have f2 := cat_run ((⟨#[115, 97, 118, 101]⟩ : ByteArray) ++ da) db (by first | omega | (simp only [ByteArray.size_append]; omega))
  have f3 := cat_run ((⟨#[115, 97, 118, 101]⟩ : ByteArray) ++ da ++ db) (⟨#[32]⟩ ++ d) (by first | omega | (simp only [ByteArray.size_append]; omega))
  have HE : Hid ((⟨#[115, 97, 118, 101]⟩ : ByteArray) ++ da ++ db ++ (⟨#[32]⟩ ++ d) = textC 7 a b c i) := Lib.hid (by
    rw [← hd.out, ← ea.out, ← eb.out]
    refine ba_ext ?_
    rw [show textC 7 a b c i = textC ((7 : Nat) : Int) a b c i from rfl, textC_list]
    simp only [ba_list]
    simp [txC, tellB, tellL, fNm, fA, fB, fC, fI, wnS, mnS, decS])
  have hS := sbegin hT 7 a b c i
  have hk := hS.2
  clear z0 zc hok p1 p2 p3 p4 hT
  go_enter Tryd.func18, Tryd.ntmps18
  go_wp2_with (first | (go_at_call 32; (with_reducible refine (itoa_op i d hd (by omega) _ (s_tells hS).tab).mono ?_); rintro e w1 ⟨rfl, hb⟩; replace hS := skeep hS hb; clear hk; have hk := hS.2; clear hb))
  have ST := Lib.hid (skeep hS ((Below.refl _ _).drew))
  clear hS hk
  go_region_held3 (fun w' => VT w w' ∧ (w.heap.size < w'.heap.size ∧ w'.cell? ⟨w.heap.size, 0, none⟩ = some (.int .i64 7) ∧ w'.cell? ⟨w.heap.size, 1, none⟩ = some (.int .i64 a) ∧ w'.cell? ⟨w.heap.size, 2, none⟩ = some (.int .i64 b) ∧ w'.cell? ⟨w.heap.size, 3, none⟩ = some (.int .i64 c) ∧ w'.cell? ⟨w.heap.size, 4, none⟩ = some (.int .i64 i))) (first | exact ST.out | exact skeep (by assumption) hb) (first | (go_at_call 33; (with_reducible refine (r_is a (by omega) da ea _ (s_tells (by assumption))).mono ?_); rintro e w' ⟨rfl, hb⟩) | (go_at_call 33; (with_reducible refine (r_is b (by omega) db eb _ (s_tells (by assumption))).mono ?_); rintro e w' ⟨rfl, hb⟩))
  have hB : VT w w' := And.left (by assumption)
  have HB := Lib.hid hB
  clear hB
  go_wp2_with fail
  go_ret
  exact ⟨ret_str HE.out, HB.out.1⟩
set_option maxRecDepth 100000 in
set_option maxHeartbeats 2000000 in
theorem it_8 (a b c i : Nat) (hok : okB 8 a b c i = true) (w : World) (hT : Tells w) : Calls Tryd.prog 18 #[.agg #[.int .i64 8, .int .i64 a, .int .i64 b, .int .i64 c, .int .i64 i]] w fun e w' => e = .returned (.string (textC 8 a b c i)) ∧ Below w.heap.size w w' := by
  obtain ⟨p1, p2, p3, p4⟩ := ok_parts hok
  have gb := ok_bounds hok
  obtain ⟨d, hd⟩ : ∃ d, Hid (decS i = d) := ⟨_, Lib.hid rfl⟩
  have hds : d.size ≤ 20 := by rw [← hd.out]; exact dec_size i (by omega)
  obtain ⟨da, ea⟩ : ∃ d, Hid (tellB a 2 = d) := ⟨_, Lib.hid rfl⟩
  have sa : da.size ≤ 30 := by rw [← ea.out]; exact tell_size a 2 (p1)
  obtain ⟨db, eb⟩ : ∃ d, Hid (tellB b 2 = d) := ⟨_, Lib.hid rfl⟩
  have sb : db.size ≤ 30 := by rw [← eb.out]; exact tell_size b 2 (p2)
  have z0 : (⟨#[32]⟩ : ByteArray).size = 1 := rfl
  have f0 := cat_run ⟨#[32]⟩ d (by omega)
  have zc : (⟨#[107, 109, 111, 118, 101]⟩ : ByteArray).size = 5 := rfl
  have f1 := cat_run ((⟨#[107, 109, 111, 118, 101]⟩ : ByteArray)) da (by first | omega | (simp only [ByteArray.size_append]; omega))
  have f2 := cat_run ((⟨#[107, 109, 111, 118, 101]⟩ : ByteArray) ++ da) db (by first | omega | (simp only [ByteArray.size_append]; omega))
  have HE : Hid ((⟨#[107, 109, 111, 118, 101]⟩ : ByteArray) ++ da ++ db = textC 8 a b c i) := Lib.hid (by
    rw [← ea.out, ← eb.out]
    refine ba_ext ?_
    rw [show textC 8 a b c i = textC ((8 : Nat) : Int) a b c i from rfl, textC_list]
    simp only [ba_list]
    simp [txC, tellB, tellL, fNm, fA, fB, fC, fI, wnS, mnS, decS])
  have hS := sbegin hT 8 a b c i
  have hk := hS.2
  clear z0 zc hok p1 p2 p3 p4 hT
  go_enter Tryd.func18, Tryd.ntmps18
  go_wp2_with (first | (go_at_call 32; (with_reducible refine (itoa_op i d hd (by omega) _ (s_tells hS).tab).mono ?_); rintro e w1 ⟨rfl, hb⟩; replace hS := skeep hS hb; clear hk; have hk := hS.2; clear hb))
  have ST := Lib.hid (skeep hS ((Below.refl _ _).drew))
  clear hS hk
  go_region_held3 (fun w' => VT w w' ∧ (w.heap.size < w'.heap.size ∧ w'.cell? ⟨w.heap.size, 0, none⟩ = some (.int .i64 8) ∧ w'.cell? ⟨w.heap.size, 1, none⟩ = some (.int .i64 a) ∧ w'.cell? ⟨w.heap.size, 2, none⟩ = some (.int .i64 b) ∧ w'.cell? ⟨w.heap.size, 3, none⟩ = some (.int .i64 c) ∧ w'.cell? ⟨w.heap.size, 4, none⟩ = some (.int .i64 i))) (first | exact ST.out | exact skeep (by assumption) hb) (first | (go_at_call 35; (with_reducible refine (k_is a (by omega) da ea _ (s_tells (by assumption))).mono ?_); rintro e w' ⟨rfl, hb⟩) | (go_at_call 35; (with_reducible refine (k_is b (by omega) db eb _ (s_tells (by assumption))).mono ?_); rintro e w' ⟨rfl, hb⟩))
  have hB : VT w w' := And.left (by assumption)
  have HB := Lib.hid hB
  clear hB
  go_wp2_with fail
  go_ret
  exact ⟨ret_str HE.out, HB.out.1⟩
set_option maxRecDepth 100000 in
set_option maxHeartbeats 2000000 in
theorem it_9 (a b c i : Nat) (hok : okB 9 a b c i = true) (w : World) (hT : Tells w) : Calls Tryd.prog 18 #[.agg #[.int .i64 9, .int .i64 a, .int .i64 b, .int .i64 c, .int .i64 i]] w fun e w' => e = .returned (.string (textC 9 a b c i)) ∧ Below w.heap.size w w' := by
  obtain ⟨p1, p2, p3, p4⟩ := ok_parts hok
  have gb := ok_bounds hok
  obtain ⟨d, hd⟩ : ∃ d, Hid (decS i = d) := ⟨_, Lib.hid rfl⟩
  have hds : d.size ≤ 20 := by rw [← hd.out]; exact dec_size i (by omega)
  obtain ⟨da, ea⟩ : ∃ d, Hid (tellB a 2 = d) := ⟨_, Lib.hid rfl⟩
  have sa : da.size ≤ 30 := by rw [← ea.out]; exact tell_size a 2 (p1)
  obtain ⟨db, eb⟩ : ∃ d, Hid (tellB b 1 = d) := ⟨_, Lib.hid rfl⟩
  have sb : db.size ≤ 30 := by rw [← eb.out]; exact tell_size b 1 (p2)
  have z0 : (⟨#[32]⟩ : ByteArray).size = 1 := rfl
  have f0 := cat_run ⟨#[32]⟩ d (by omega)
  have zc : (⟨#[107, 110, 117, 109]⟩ : ByteArray).size = 4 := rfl
  have f1 := cat_run ((⟨#[107, 110, 117, 109]⟩ : ByteArray)) da (by first | omega | (simp only [ByteArray.size_append]; omega))
  have f2 := cat_run ((⟨#[107, 110, 117, 109]⟩ : ByteArray) ++ da) db (by first | omega | (simp only [ByteArray.size_append]; omega))
  have HE : Hid ((⟨#[107, 110, 117, 109]⟩ : ByteArray) ++ da ++ db = textC 9 a b c i) := Lib.hid (by
    rw [← ea.out, ← eb.out]
    refine ba_ext ?_
    rw [show textC 9 a b c i = textC ((9 : Nat) : Int) a b c i from rfl, textC_list]
    simp only [ba_list]
    simp [txC, tellB, tellL, fNm, fA, fB, fC, fI, wnS, mnS, decS])
  have hS := sbegin hT 9 a b c i
  have hk := hS.2
  clear z0 zc hok p1 p2 p3 p4 hT
  go_enter Tryd.func18, Tryd.ntmps18
  go_wp2_with (first | (go_at_call 32; (with_reducible refine (itoa_op i d hd (by omega) _ (s_tells hS).tab).mono ?_); rintro e w1 ⟨rfl, hb⟩; replace hS := skeep hS hb; clear hk; have hk := hS.2; clear hb))
  have ST := Lib.hid (skeep hS ((Below.refl _ _).drew))
  clear hS hk
  go_region_held3 (fun w' => VT w w' ∧ (w.heap.size < w'.heap.size ∧ w'.cell? ⟨w.heap.size, 0, none⟩ = some (.int .i64 9) ∧ w'.cell? ⟨w.heap.size, 1, none⟩ = some (.int .i64 a) ∧ w'.cell? ⟨w.heap.size, 2, none⟩ = some (.int .i64 b) ∧ w'.cell? ⟨w.heap.size, 3, none⟩ = some (.int .i64 c) ∧ w'.cell? ⟨w.heap.size, 4, none⟩ = some (.int .i64 i))) (first | exact ST.out | exact skeep (by assumption) hb) (first | (go_at_call 35; (with_reducible refine (k_is a (by omega) da ea _ (s_tells (by assumption))).mono ?_); rintro e w' ⟨rfl, hb⟩) | (go_at_call 33; (with_reducible refine (r_is b (by omega) db eb _ (s_tells (by assumption))).mono ?_); rintro e w' ⟨rfl, hb⟩))
  have hB : VT w w' := And.left (by assumption)
  have HB := Lib.hid hB
  clear hB
  go_wp2_with fail
  go_ret
  exact ⟨ret_str HE.out, HB.out.1⟩
set_option maxRecDepth 100000 in
set_option maxHeartbeats 2000000 in
theorem it_10 (a b c i : Nat) (hok : okB 10 a b c i = true) (w : World) (hT : Tells w) : Calls Tryd.prog 18 #[.agg #[.int .i64 10, .int .i64 a, .int .i64 b, .int .i64 c, .int .i64 i]] w fun e w' => e = .returned (.string (textC 10 a b c i)) ∧ Below w.heap.size w w' := by
  obtain ⟨p1, p2, p3, p4⟩ := ok_parts hok
  have gb := ok_bounds hok
  obtain ⟨d, hd⟩ : ∃ d, Hid (decS i = d) := ⟨_, Lib.hid rfl⟩
  have hds : d.size ≤ 20 := by rw [← hd.out]; exact dec_size i (by omega)
  obtain ⟨da, ea⟩ : ∃ d, Hid (tellB a 1 = d) := ⟨_, Lib.hid rfl⟩
  have sa : da.size ≤ 30 := by rw [← ea.out]; exact tell_size a 1 (p1)
  obtain ⟨db, eb⟩ : ∃ d, Hid (tellB b 2 = d) := ⟨_, Lib.hid rfl⟩
  have sb : db.size ≤ 30 := by rw [← eb.out]; exact tell_size b 2 (p2)
  have z0 : (⟨#[32]⟩ : ByteArray).size = 1 := rfl
  have f0 := cat_run ⟨#[32]⟩ d (by omega)
  have zc : (⟨#[107, 103, 101, 116]⟩ : ByteArray).size = 4 := rfl
  have f1 := cat_run ((⟨#[107, 103, 101, 116]⟩ : ByteArray)) da (by first | omega | (simp only [ByteArray.size_append]; omega))
  have f2 := cat_run ((⟨#[107, 103, 101, 116]⟩ : ByteArray) ++ da) db (by first | omega | (simp only [ByteArray.size_append]; omega))
  have HE : Hid ((⟨#[107, 103, 101, 116]⟩ : ByteArray) ++ da ++ db = textC 10 a b c i) := Lib.hid (by
    rw [← ea.out, ← eb.out]
    refine ba_ext ?_
    rw [show textC 10 a b c i = textC ((10 : Nat) : Int) a b c i from rfl, textC_list]
    simp only [ba_list]
    simp [txC, tellB, tellL, fNm, fA, fB, fC, fI, wnS, mnS, decS])
  have hS := sbegin hT 10 a b c i
  have hk := hS.2
  clear z0 zc hok p1 p2 p3 p4 hT
  go_enter Tryd.func18, Tryd.ntmps18
  go_wp2_with (first | (go_at_call 32; (with_reducible refine (itoa_op i d hd (by omega) _ (s_tells hS).tab).mono ?_); rintro e w1 ⟨rfl, hb⟩; replace hS := skeep hS hb; clear hk; have hk := hS.2; clear hb))
  have ST := Lib.hid (skeep hS ((Below.refl _ _).drew))
  clear hS hk
  go_region_held3 (fun w' => VT w w' ∧ (w.heap.size < w'.heap.size ∧ w'.cell? ⟨w.heap.size, 0, none⟩ = some (.int .i64 10) ∧ w'.cell? ⟨w.heap.size, 1, none⟩ = some (.int .i64 a) ∧ w'.cell? ⟨w.heap.size, 2, none⟩ = some (.int .i64 b) ∧ w'.cell? ⟨w.heap.size, 3, none⟩ = some (.int .i64 c) ∧ w'.cell? ⟨w.heap.size, 4, none⟩ = some (.int .i64 i))) (first | exact ST.out | exact skeep (by assumption) hb) (first | (go_at_call 33; (with_reducible refine (r_is a (by omega) da ea _ (s_tells (by assumption))).mono ?_); rintro e w' ⟨rfl, hb⟩) | (go_at_call 35; (with_reducible refine (k_is b (by omega) db eb _ (s_tells (by assumption))).mono ?_); rintro e w' ⟨rfl, hb⟩))
  have hB : VT w w' := And.left (by assumption)
  have HB := Lib.hid hB
  clear hB
  go_wp2_with fail
  go_ret
  exact ⟨ret_str HE.out, HB.out.1⟩
set_option maxRecDepth 100000 in
set_option maxHeartbeats 2000000 in
theorem it_11 (a b c i : Nat) (hok : okB 11 a b c i = true) (w : World) (hT : Tells w) : Calls Tryd.prog 18 #[.agg #[.int .i64 11, .int .i64 a, .int .i64 b, .int .i64 c, .int .i64 i]] w fun e w' => e = .returned (.string (textC 11 a b c i)) ∧ Below w.heap.size w w' := by
  obtain ⟨p1, p2, p3, p4⟩ := ok_parts hok
  have gb := ok_bounds hok
  have hma : a < 3 := by simp only [fitB, decide_eq_true_eq] at p1; have : hiOf (fA.getD 11 0) = 2 := rfl; omega
  obtain ⟨d, hd⟩ : ∃ d, Hid (decS i = d) := ⟨_, Lib.hid rfl⟩
  have hds : d.size ≤ 20 := by rw [← hd.out]; exact dec_size i (by omega)
  obtain ⟨da, ea⟩ : ∃ d, Hid (mnS a = d) := ⟨_, Lib.hid rfl⟩
  have sa : da.size ≤ 30 := by rw [← ea.out]; exact Nat.le_trans (mn_size ⟨a, hma⟩) (by decide)
  obtain ⟨db, eb⟩ : ∃ d, Hid (tellB b 2 = d) := ⟨_, Lib.hid rfl⟩
  have sb : db.size ≤ 30 := by rw [← eb.out]; exact tell_size b 2 (p2)
  obtain ⟨dc, ec⟩ : ∃ d, Hid (tellB c 2 = d) := ⟨_, Lib.hid rfl⟩
  have sc : dc.size ≤ 30 := by rw [← ec.out]; exact tell_size c 2 (p3)
  have z0 : (⟨#[32]⟩ : ByteArray).size = 1 := rfl
  have f0 := cat_run ⟨#[32]⟩ d (by omega)
  have zc : (⟨#[105, 110, 118, 32]⟩ : ByteArray).size = 4 := rfl
  have f1 := cat_run ((⟨#[105, 110, 118, 32]⟩ : ByteArray)) da (by first | omega | (simp only [ByteArray.size_append]; omega))
  have f2 := cat_run ((⟨#[105, 110, 118, 32]⟩ : ByteArray) ++ da) db (by first | omega | (simp only [ByteArray.size_append]; omega))
  have f3 := cat_run ((⟨#[105, 110, 118, 32]⟩ : ByteArray) ++ da ++ db) dc (by first | omega | (simp only [ByteArray.size_append]; omega))
  have HE : Hid ((⟨#[105, 110, 118, 32]⟩ : ByteArray) ++ da ++ db ++ dc = textC 11 a b c i) := Lib.hid (by
    rw [← ea.out, ← eb.out, ← ec.out]
    refine ba_ext ?_
    rw [show textC 11 a b c i = textC ((11 : Nat) : Int) a b c i from rfl, textC_list]
    simp only [ba_list]
    simp [txC, tellB, tellL, fNm, fA, fB, fC, fI, wnS, mnS, decS])
  have hS := sbegin hT 11 a b c i
  have hk := hS.2
  clear z0 zc hok p1 p2 p3 p4 hT
  go_enter Tryd.func18, Tryd.ntmps18
  go_wp2_with (first | (go_at_call 32; (with_reducible refine (itoa_op i d hd (by omega) _ (s_tells hS).tab).mono ?_); rintro e w1 ⟨rfl, hb⟩; replace hS := skeep hS hb; clear hk; have hk := hS.2; clear hb))
  have ST := Lib.hid (skeep hS ((Below.refl _ _).drew))
  clear hS hk
  go_region_held3 (fun w' => VT w w' ∧ (w.heap.size < w'.heap.size ∧ w'.cell? ⟨w.heap.size, 0, none⟩ = some (.int .i64 11) ∧ w'.cell? ⟨w.heap.size, 1, none⟩ = some (.int .i64 a) ∧ w'.cell? ⟨w.heap.size, 2, none⟩ = some (.int .i64 b) ∧ w'.cell? ⟨w.heap.size, 3, none⟩ = some (.int .i64 c) ∧ w'.cell? ⟨w.heap.size, 4, none⟩ = some (.int .i64 i))) (first | exact ST.out | exact skeep (by assumption) hb) (first | (go_at_call 36; (with_reducible refine (h_is a hma da ea _).mono ?_); rintro e w' ⟨rfl, hb⟩) | (go_at_call 35; (with_reducible refine (k_is b (by omega) db eb _ (s_tells (by assumption))).mono ?_); rintro e w' ⟨rfl, hb⟩) | (go_at_call 35; (with_reducible refine (k_is c (by omega) dc ec _ (s_tells (by assumption))).mono ?_); rintro e w' ⟨rfl, hb⟩))
  have hB : VT w w' := And.left (by assumption)
  have HB := Lib.hid hB
  clear hB
  go_wp2_with fail
  go_ret
  exact ⟨ret_str HE.out, HB.out.1⟩
set_option maxRecDepth 100000 in
set_option maxHeartbeats 2000000 in
theorem it_12 (a b c i : Nat) (hok : okB 12 a b c i = true) (w : World) (hT : Tells w) : Calls Tryd.prog 18 #[.agg #[.int .i64 12, .int .i64 a, .int .i64 b, .int .i64 c, .int .i64 i]] w fun e w' => e = .returned (.string (textC 12 a b c i)) ∧ Below w.heap.size w w' := by
  obtain ⟨p1, p2, p3, p4⟩ := ok_parts hok
  have gb := ok_bounds hok
  obtain ⟨d, hd⟩ : ∃ d, Hid (decS i = d) := ⟨_, Lib.hid rfl⟩
  have hds : d.size ≤ 20 := by rw [← hd.out]; exact dec_size i (by omega)
  have z0 : (⟨#[32]⟩ : ByteArray).size = 1 := rfl
  have f0 := cat_run ⟨#[32]⟩ d (by omega)
  have zc : (⟨#[121, 105, 101, 108, 100]⟩ : ByteArray).size = 5 := rfl
  have HE : Hid ((⟨#[121, 105, 101, 108, 100]⟩ : ByteArray) = textC 12 a b c i) := Lib.hid (by
    refine ba_ext ?_
    rw [show textC 12 a b c i = textC ((12 : Nat) : Int) a b c i from rfl, textC_list]
    simp only [ba_list]
    simp [txC, tellB, tellL, fNm, fA, fB, fC, fI, wnS, mnS, decS])
  have hS := sbegin hT 12 a b c i
  have hk := hS.2
  clear z0 zc hok p1 p2 p3 p4 hT
  go_enter Tryd.func18, Tryd.ntmps18
  go_wp2_with (first | (go_at_call 32; (with_reducible refine (itoa_op i d hd (by omega) _ (s_tells hS).tab).mono ?_); rintro e w1 ⟨rfl, hb⟩; replace hS := skeep hS hb; clear hk; have hk := hS.2; clear hb))
  go_ret
  exact ⟨ret_str HE.out, s_bel hS⟩
set_option maxRecDepth 100000 in
set_option maxHeartbeats 2000000 in
theorem it_13 (a b c i : Nat) (hok : okB 13 a b c i = true) (w : World) (hT : Tells w) : Calls Tryd.prog 18 #[.agg #[.int .i64 13, .int .i64 a, .int .i64 b, .int .i64 c, .int .i64 i]] w fun e w' => e = .returned (.string (textC 13 a b c i)) ∧ Below w.heap.size w w' := by
  obtain ⟨p1, p2, p3, p4⟩ := ok_parts hok
  have gb := ok_bounds hok
  obtain ⟨d, hd⟩ : ∃ d, Hid (decS i = d) := ⟨_, Lib.hid rfl⟩
  have hds : d.size ≤ 20 := by rw [← hd.out]; exact dec_size i (by omega)
  have z0 : (⟨#[32]⟩ : ByteArray).size = 1 := rfl
  have f0 := cat_run ⟨#[32]⟩ d (by omega)
  have zc : (⟨#[104, 97, 108, 116]⟩ : ByteArray).size = 4 := rfl
  have HE : Hid ((⟨#[104, 97, 108, 116]⟩ : ByteArray) = textC 13 a b c i) := Lib.hid (by
    refine ba_ext ?_
    rw [show textC 13 a b c i = textC ((13 : Nat) : Int) a b c i from rfl, textC_list]
    simp only [ba_list]
    simp [txC, tellB, tellL, fNm, fA, fB, fC, fI, wnS, mnS, decS])
  have hS := sbegin hT 13 a b c i
  have hk := hS.2
  clear z0 zc hok p1 p2 p3 p4 hT
  go_enter Tryd.func18, Tryd.ntmps18
  go_wp2_with (first | (go_at_call 32; (with_reducible refine (itoa_op i d hd (by omega) _ (s_tells hS).tab).mono ?_); rintro e w1 ⟨rfl, hb⟩; replace hS := skeep hS hb; clear hk; have hk := hS.2; clear hb))
  go_ret
  exact ⟨ret_str HE.out, s_bel hS⟩
theorem reftextC_right (op a b c i : Int) (w : World) (hT : Tells w) (hok : Hid (okB op a b c i = true)) (t : ByteArray) (ht : Hid (textC op a b c i = t)) :
    Calls Tryd.prog 18 #[.agg #[.int .i64 op, .int .i64 a, .int .i64 b, .int .i64 c, .int .i64 i]] w fun e w' => e = .returned (.string t) ∧ Below w.heap.size w w' := by
  have g := ok_bounds hok.out
  rw [← ht.out]
  have h := hok.out
  obtain ⟨a, rfl⟩ : ∃ n : Nat, a = n := ⟨a.toNat, by omega⟩
  obtain ⟨b, rfl⟩ : ∃ n : Nat, b = n := ⟨b.toNat, by omega⟩
  obtain ⟨c, rfl⟩ : ∃ n : Nat, c = n := ⟨c.toNat, by omega⟩
  obtain ⟨i, rfl⟩ : ∃ n : Nat, i = n := ⟨i.toNat, by omega⟩
  obtain rfl | rfl | rfl | rfl | rfl | rfl | rfl | rfl | rfl | rfl | rfl | rfl | rfl : op = 1 ∨ op = 2 ∨ op = 3 ∨ op = 4 ∨ op = 5 ∨ op = 6 ∨ op = 7 ∨ op = 8 ∨ op = 9 ∨ op = 10 ∨ op = 11 ∨ op = 12 ∨ op = 13 := by omega
  · exact it_1 a b c i h w hT
  · exact it_2 a b c i h w hT
  · exact it_3 a b c i h w hT
  · exact it_4 a b c i h w hT
  · exact it_5 a b c i h w hT
  · exact it_6 a b c i h w hT
  · exact it_7 a b c i h w hT
  · exact it_8 a b c i h w hT
  · exact it_9 a b c i h w hT
  · exact it_10 a b c i h w hT
  · exact it_11 a b c i h w hT
  · exact it_12 a b c i h w hT
  · exact it_13 a b c i h w hT
end Go.Proofs.YtggnaalcdekccabDoor
