/-
  package code: Text of a right instruction.
-/
import Derived.Test.YtaekccgcnlepaaaGreatDoorItoa
import Derived.Test.YtaekccgcnlepaaaGreatDoorCodeW
namespace Go.Proofs.YtaekccgcnlepaaaGreatDoor
open Go.ChangeShapes Go.WideShapes Go.ChangeAt Go.RowKit
set_option linter.unusedVariables false
def VT (W w : World) : Prop := Below W.heap.size W w ∧ Tells w
theorem VT.step {W w w' : World} (h : VT W w) (hb : Below w.heap.size w w') : VT W w' := ⟨h.1.trans (hb.mono h.1.size), h.2.below hb⟩
section
variable {B F : Nat} {k0 k1 k2 k3 k4 : Int} {s : ByteArray} {fa fb fc fi : Int} {W w w' : World}
theorem keepf (h : F < w.heap.size ∧ w.cell? ⟨F, 0, none⟩ = some (.string s) ∧ w.cell? ⟨F, 1, none⟩ = some (.int .i64 fa) ∧ w.cell? ⟨F, 2, none⟩ = some (.int .i64 fb) ∧ w.cell? ⟨F, 3, none⟩ = some (.int .i64 fc) ∧ w.cell? ⟨F, 4, none⟩ = some (.int .i64 fi)) (hb : Below w.heap.size w w') : F < w'.heap.size ∧ w'.cell? ⟨F, 0, none⟩ = some (.string s) ∧ w'.cell? ⟨F, 1, none⟩ = some (.int .i64 fa) ∧ w'.cell? ⟨F, 2, none⟩ = some (.int .i64 fb) ∧ w'.cell? ⟨F, 3, none⟩ = some (.int .i64 fc) ∧ w'.cell? ⟨F, 4, none⟩ = some (.int .i64 fi) := by
  obtain ⟨h2, h3, h4, h5, h6, h7⟩ := h
  have hc := (bcellC hb).1
  have hz := hb.size
  exact ⟨by omega, by rw [hc _ _ h2]; exact h3, by rw [hc _ _ h2]; exact h4, by rw [hc _ _ h2]; exact h5, by rw [hc _ _ h2]; exact h6, by rw [hc _ _ h2]; exact h7⟩
theorem tkeep (h : VT W w ∧ (B < w.heap.size ∧ w.cell? ⟨B, 0, none⟩ = some (.int .i64 k0) ∧ w.cell? ⟨B, 1, none⟩ = some (.int .i64 k1) ∧ w.cell? ⟨B, 2, none⟩ = some (.int .i64 k2) ∧ w.cell? ⟨B, 3, none⟩ = some (.int .i64 k3) ∧ w.cell? ⟨B, 4, none⟩ = some (.int .i64 k4)) ∧ (F < w.heap.size ∧ w.cell? ⟨F, 0, none⟩ = some (.string s) ∧ w.cell? ⟨F, 1, none⟩ = some (.int .i64 fa) ∧ w.cell? ⟨F, 2, none⟩ = some (.int .i64 fb) ∧ w.cell? ⟨F, 3, none⟩ = some (.int .i64 fc) ∧ w.cell? ⟨F, 4, none⟩ = some (.int .i64 fi))) (hb : Below w.heap.size w w') : VT W w' ∧ (B < w'.heap.size ∧ w'.cell? ⟨B, 0, none⟩ = some (.int .i64 k0) ∧ w'.cell? ⟨B, 1, none⟩ = some (.int .i64 k1) ∧ w'.cell? ⟨B, 2, none⟩ = some (.int .i64 k2) ∧ w'.cell? ⟨B, 3, none⟩ = some (.int .i64 k3) ∧ w'.cell? ⟨B, 4, none⟩ = some (.int .i64 k4)) ∧ (F < w'.heap.size ∧ w'.cell? ⟨F, 0, none⟩ = some (.string s) ∧ w'.cell? ⟨F, 1, none⟩ = some (.int .i64 fa) ∧ w'.cell? ⟨F, 2, none⟩ = some (.int .i64 fb) ∧ w'.cell? ⟨F, 3, none⟩ = some (.int .i64 fc) ∧ w'.cell? ⟨F, 4, none⟩ = some (.int .i64 fi)) := ⟨h.1.step hb, keep5C h.2.1 hb, keepf h.2.2 hb⟩
theorem tstart (h : VT W w) (hk : B < w.heap.size ∧ w.cell? ⟨B, 0, none⟩ = some (.int .i64 k0) ∧ w.cell? ⟨B, 1, none⟩ = some (.int .i64 k1) ∧ w.cell? ⟨B, 2, none⟩ = some (.int .i64 k2) ∧ w.cell? ⟨B, 3, none⟩ = some (.int .i64 k3) ∧ w.cell? ⟨B, 4, none⟩ = some (.int .i64 k4)) (s : ByteArray) (fa fb fc fi : Int) : VT W (w.alloc (.cells #[.string s, .int .i64 fa, .int .i64 fb, .int .i64 fc, .int .i64 fi] 95)).drew ∧ (B < (w.alloc (.cells #[.string s, .int .i64 fa, .int .i64 fb, .int .i64 fc, .int .i64 fi] 95)).drew.heap.size ∧ (w.alloc (.cells #[.string s, .int .i64 fa, .int .i64 fb, .int .i64 fc, .int .i64 fi] 95)).drew.cell? ⟨B, 0, none⟩ = some (.int .i64 k0) ∧ (w.alloc (.cells #[.string s, .int .i64 fa, .int .i64 fb, .int .i64 fc, .int .i64 fi] 95)).drew.cell? ⟨B, 1, none⟩ = some (.int .i64 k1) ∧ (w.alloc (.cells #[.string s, .int .i64 fa, .int .i64 fb, .int .i64 fc, .int .i64 fi] 95)).drew.cell? ⟨B, 2, none⟩ = some (.int .i64 k2) ∧ (w.alloc (.cells #[.string s, .int .i64 fa, .int .i64 fb, .int .i64 fc, .int .i64 fi] 95)).drew.cell? ⟨B, 3, none⟩ = some (.int .i64 k3) ∧ (w.alloc (.cells #[.string s, .int .i64 fa, .int .i64 fb, .int .i64 fc, .int .i64 fi] 95)).drew.cell? ⟨B, 4, none⟩ = some (.int .i64 k4)) ∧ (w.heap.size < (w.alloc (.cells #[.string s, .int .i64 fa, .int .i64 fb, .int .i64 fc, .int .i64 fi] 95)).drew.heap.size ∧ (w.alloc (.cells #[.string s, .int .i64 fa, .int .i64 fb, .int .i64 fc, .int .i64 fi] 95)).drew.cell? ⟨w.heap.size, 0, none⟩ = some (.string s) ∧ (w.alloc (.cells #[.string s, .int .i64 fa, .int .i64 fb, .int .i64 fc, .int .i64 fi] 95)).drew.cell? ⟨w.heap.size, 1, none⟩ = some (.int .i64 fa) ∧ (w.alloc (.cells #[.string s, .int .i64 fa, .int .i64 fb, .int .i64 fc, .int .i64 fi] 95)).drew.cell? ⟨w.heap.size, 2, none⟩ = some (.int .i64 fb) ∧ (w.alloc (.cells #[.string s, .int .i64 fa, .int .i64 fb, .int .i64 fc, .int .i64 fi] 95)).drew.cell? ⟨w.heap.size, 3, none⟩ = some (.int .i64 fc) ∧ (w.alloc (.cells #[.string s, .int .i64 fa, .int .i64 fb, .int .i64 fc, .int .i64 fi] 95)).drew.cell? ⟨w.heap.size, 4, none⟩ = some (.int .i64 fi)) :=
  have hb : Below w.heap.size w (w.alloc (.cells #[.string s, .int .i64 fa, .int .i64 fb, .int .i64 fc, .int .i64 fi] 95)).drew := ((Below.refl _ _).alloc (Nat.le_refl _) _).drew
  ⟨h.step hb, keep5C hk hb, by simp, by simp, by simp, by simp, by simp, by simp⟩
theorem ttell (n : Nat) (f : Int) (d : ByteArray) (hn : Hid (fitB n f = true)) (hd : Hid (tellB n f = d)) (h : VT W w ∧ (B < w.heap.size ∧ w.cell? ⟨B, 0, none⟩ = some (.int .i64 k0) ∧ w.cell? ⟨B, 1, none⟩ = some (.int .i64 k1) ∧ w.cell? ⟨B, 2, none⟩ = some (.int .i64 k2) ∧ w.cell? ⟨B, 3, none⟩ = some (.int .i64 k3) ∧ w.cell? ⟨B, 4, none⟩ = some (.int .i64 k4)) ∧ (F < w.heap.size ∧ w.cell? ⟨F, 0, none⟩ = some (.string s) ∧ w.cell? ⟨F, 1, none⟩ = some (.int .i64 fa) ∧ w.cell? ⟨F, 2, none⟩ = some (.int .i64 fb) ∧ w.cell? ⟨F, 3, none⟩ = some (.int .i64 fc) ∧ w.cell? ⟨F, 4, none⟩ = some (.int .i64 fi))) : Calls Tryz.prog 45 #[.int .i64 n, .int .i64 f] w fun e w' => e = .returned (.string d) ∧ Below w.heap.size w w' := tell_any n f hn d hd w h.1.2
end
/-- The text of a right instruction. -/
def textC (op a b c i : Int) : ByteArray :=
  if op = 3 then nmC 3 ++ tellB i (fI.getD 3 0) ++ tellB a (fA.getD 3 0) ++ tellB b (fB.getD 3 0) ++ tellB c (fC.getD 3 0)
  else nmC op.toNat ++ tellB a (fA.getD op.toNat 0) ++ tellB b (fB.getD op.toNat 0) ++ tellB c (fC.getD op.toNat 0) ++ tellB i (fI.getD op.toNat 0)
theorem nmC_size : ∀ n : Fin 14, (nmC n.val).size ≤ 5 := by decide +kernel
theorem FormAt.below {n : Nat} {s : ByteArray} {fa fb fc fi : Int} {w w' : World} (h : FormAt n s fa fb fc fi w) (hl : 1 < w.heap.size) (hb : Below w.heap.size w w') : FormAt n s fa fb fc fi w' := by
  unfold FormAt at *
  have e : ∀ j, w'.cell? ⟨1, j, none⟩ = w.cell? ⟨1, j, none⟩ := fun j => hb.cell (p := ⟨1, j, none⟩) hl
  simpa only [e] using h
set_option maxRecDepth 100000 in
set_option maxHeartbeats 1000000 in
theorem ctext_any (n : Nat) (hn1 : 1 ≤ n) (hn : n ≤ 13) (s : ByteArray) (fa fb fc fi : Int) (a b c i : Nat) (w : World) (x y : Addr) (hC : CodeAt (errC x) (errC y) w) (hT : Tells w) (hF : FormAt n s fa fb fc fi w) (hok : Hid (okB n a b c i = true)) (ga : Hid (fitB a fa = true)) (gb : Hid (fitB b fb = true)) (gc : Hid (fitB c fc = true)) (gi : Hid (fitB i fi = true)) (da db dc di : ByteArray) (ea : Hid (tellB a fa = da)) (eb : Hid (tellB b fb = db)) (ec : Hid (tellB c fc = dc)) (ei : Hid (tellB i fi = di)) (zs : s.size ≤ 5) (za : da.size ≤ 30) (zb : db.size ≤ 30) (zc : dc.size ≤ 30) (zi : di.size ≤ 30) (b3 : ((n : Int) == 3) = false) (n3 : ¬ n = 3) (t : ByteArray) (ht : Hid (s ++ da ++ db ++ dc ++ di = t)) :
    Calls Tryz.prog 25 #[.agg #[.int .i64 n, .int .i64 a, .int .i64 b, .int .i64 c, .int .i64 i]] w fun e w' => e = .returned (.string t) ∧ Below w.heap.size w w' := by
  have HC := hC.below ((Below.refl _ _).alloc (Nat.le_refl _) _ : Below w.heap.size w (w.alloc (.cells #[.int .i64 n, .int .i64 a, .int .i64 b, .int .i64 c, .int .i64 i] 62))); have HF := Lib.hid (hF.below hC.forms.lt ((Below.refl _ _).alloc (Nat.le_refl _) _ : Below w.heap.size w (w.alloc (.cells #[.int .i64 n, .int .i64 a, .int .i64 b, .int .i64 c, .int .i64 i] 62)))); have HV : VT w (w.alloc (.cells #[.int .i64 n, .int .i64 a, .int .i64 b, .int .i64 c, .int .i64 i] 62)) := ⟨(Below.refl _ _).alloc (Nat.le_refl _) _, hT.below ((Below.refl _ _).alloc (Nat.le_refl _) _)⟩; clear hC hF hT
  have f1 := cat_run s da (by omega)
  have f2 := cat_run (s ++ da) db (by rw [ByteArray.size_append]; omega)
  have f3 := cat_run (s ++ da ++ db) dc (by rw [ByteArray.size_append, ByteArray.size_append]; omega)
  have f4 := cat_run (s ++ da ++ db ++ dc) di (by rw [ByteArray.size_append, ByteArray.size_append, ByteArray.size_append]; omega)
  have hlo : (0 : Int) ≤ n := by omega
  have hhi : (n : Int) < 14 := by omega
  go_enter Tryz.func25, Tryz.ntmps25
  go_wp2_with (first | (go_at_call 44; (with_reducible refine (cvalid_yes _ _ _ _ _ _ _ hok _ HC).mono ?_); rintro e w1 ⟨rfl, hb⟩; have hk := keep5C (k0 := n) (k1 := a) (k2 := b) (k3 := c) (k4 := i) (b := w.heap.size) ⟨by simp, by simp, by simp, by simp, by simp, by simp⟩ hb; obtain ⟨q0, q1, q2, q3, q4⟩ := HF.out.below HC.forms.lt hb; have hV := HV.step hb; clear hb))
  have ST := Lib.hid (tstart hV hk s fa fb fc fi)
  clear hV hk q0 q1 q2 q3 q4 HC HV
  go_region_held3 (fun w' => VT w w' ∧ (w.heap.size < w'.heap.size ∧ w'.cell? ⟨w.heap.size, 0, none⟩ = some (.int .i64 n) ∧ w'.cell? ⟨w.heap.size, 1, none⟩ = some (.int .i64 a) ∧ w'.cell? ⟨w.heap.size, 2, none⟩ = some (.int .i64 b) ∧ w'.cell? ⟨w.heap.size, 3, none⟩ = some (.int .i64 c) ∧ w'.cell? ⟨w.heap.size, 4, none⟩ = some (.int .i64 i)) ∧ (w1.heap.size < w'.heap.size ∧ w'.cell? ⟨w1.heap.size, 0, none⟩ = some (.string s) ∧ w'.cell? ⟨w1.heap.size, 1, none⟩ = some (.int .i64 fa) ∧ w'.cell? ⟨w1.heap.size, 2, none⟩ = some (.int .i64 fb) ∧ w'.cell? ⟨w1.heap.size, 3, none⟩ = some (.int .i64 fc) ∧ w'.cell? ⟨w1.heap.size, 4, none⟩ = some (.int .i64 fi))) (first | exact ST.out | exact tkeep (by assumption) hb) (first | (go_at_call 45; (with_reducible refine (ttell a fa da ga ea (by assumption)).mono ?_); rintro e w' ⟨rfl, hb⟩) | (go_at_call 45; (with_reducible refine (ttell b fb db gb eb (by assumption)).mono ?_); rintro e w' ⟨rfl, hb⟩) | (go_at_call 45; (with_reducible refine (ttell c fc dc gc ec (by assumption)).mono ?_); rintro e w' ⟨rfl, hb⟩) | (go_at_call 45; (with_reducible refine (ttell i fi di gi ei (by assumption)).mono ?_); rintro e w' ⟨rfl, hb⟩))
  have hS := Lib.hid (show VT w w' from And.left (by assumption))
  go_wp2
  go_ret
  exact ⟨ret_str ht.out, hS.out.1⟩
set_option maxRecDepth 100000 in
set_option maxHeartbeats 1000000 in
theorem ctext_alu (n : Nat) (hn1 : 1 ≤ n) (hn : n ≤ 13) (s : ByteArray) (fa fb fc fi : Int) (a b c i : Nat) (w : World) (x y : Addr) (hC : CodeAt (errC x) (errC y) w) (hT : Tells w) (hF : FormAt n s fa fb fc fi w) (hok : Hid (okB n a b c i = true)) (ga : Hid (fitB a fa = true)) (gb : Hid (fitB b fb = true)) (gc : Hid (fitB c fc = true)) (gi : Hid (fitB i fi = true)) (da db dc di : ByteArray) (ea : Hid (tellB a fa = da)) (eb : Hid (tellB b fb = db)) (ec : Hid (tellB c fc = dc)) (ei : Hid (tellB i fi = di)) (zs : s.size ≤ 5) (za : da.size ≤ 30) (zb : db.size ≤ 30) (zc : dc.size ≤ 30) (zi : di.size ≤ 30) (b3 : ((n : Int) == 3) = true) (t : ByteArray) (ht : Hid (s ++ di ++ da ++ db ++ dc = t)) :
    Calls Tryz.prog 25 #[.agg #[.int .i64 n, .int .i64 a, .int .i64 b, .int .i64 c, .int .i64 i]] w fun e w' => e = .returned (.string t) ∧ Below w.heap.size w w' := by
  have HC := hC.below ((Below.refl _ _).alloc (Nat.le_refl _) _ : Below w.heap.size w (w.alloc (.cells #[.int .i64 n, .int .i64 a, .int .i64 b, .int .i64 c, .int .i64 i] 62))); have HF := Lib.hid (hF.below hC.forms.lt ((Below.refl _ _).alloc (Nat.le_refl _) _ : Below w.heap.size w (w.alloc (.cells #[.int .i64 n, .int .i64 a, .int .i64 b, .int .i64 c, .int .i64 i] 62)))); have HV : VT w (w.alloc (.cells #[.int .i64 n, .int .i64 a, .int .i64 b, .int .i64 c, .int .i64 i] 62)) := ⟨(Below.refl _ _).alloc (Nat.le_refl _) _, hT.below ((Below.refl _ _).alloc (Nat.le_refl _) _)⟩; clear hC hF hT
  have f1 := cat_run s di (by omega)
  have f2 := cat_run (s ++ di) da (by rw [ByteArray.size_append]; omega)
  have f3 := cat_run (s ++ di ++ da) db (by rw [ByteArray.size_append, ByteArray.size_append]; omega)
  have f4 := cat_run (s ++ di ++ da ++ db) dc (by rw [ByteArray.size_append, ByteArray.size_append, ByteArray.size_append]; omega)
  have hlo : (0 : Int) ≤ n := by omega
  have hhi : (n : Int) < 14 := by omega
  go_enter Tryz.func25, Tryz.ntmps25
  go_wp2_with (first | (go_at_call 44; (with_reducible refine (cvalid_yes _ _ _ _ _ _ _ hok _ HC).mono ?_); rintro e w1 ⟨rfl, hb⟩; have hk := keep5C (k0 := n) (k1 := a) (k2 := b) (k3 := c) (k4 := i) (b := w.heap.size) ⟨by simp, by simp, by simp, by simp, by simp, by simp⟩ hb; obtain ⟨q0, q1, q2, q3, q4⟩ := HF.out.below HC.forms.lt hb; have hV := HV.step hb; clear hb))
  have ST := Lib.hid (tstart hV hk s fa fb fc fi)
  clear hV hk q0 q1 q2 q3 q4 HC HV
  go_region_held3 (fun w' => VT w w' ∧ (w.heap.size < w'.heap.size ∧ w'.cell? ⟨w.heap.size, 0, none⟩ = some (.int .i64 n) ∧ w'.cell? ⟨w.heap.size, 1, none⟩ = some (.int .i64 a) ∧ w'.cell? ⟨w.heap.size, 2, none⟩ = some (.int .i64 b) ∧ w'.cell? ⟨w.heap.size, 3, none⟩ = some (.int .i64 c) ∧ w'.cell? ⟨w.heap.size, 4, none⟩ = some (.int .i64 i)) ∧ (w1.heap.size < w'.heap.size ∧ w'.cell? ⟨w1.heap.size, 0, none⟩ = some (.string s) ∧ w'.cell? ⟨w1.heap.size, 1, none⟩ = some (.int .i64 fa) ∧ w'.cell? ⟨w1.heap.size, 2, none⟩ = some (.int .i64 fb) ∧ w'.cell? ⟨w1.heap.size, 3, none⟩ = some (.int .i64 fc) ∧ w'.cell? ⟨w1.heap.size, 4, none⟩ = some (.int .i64 fi))) (first | exact ST.out | exact tkeep (by assumption) hb) (first | (go_at_call 45; (with_reducible refine (ttell a fa da ga ea (by assumption)).mono ?_); rintro e w' ⟨rfl, hb⟩) | (go_at_call 45; (with_reducible refine (ttell b fb db gb eb (by assumption)).mono ?_); rintro e w' ⟨rfl, hb⟩) | (go_at_call 45; (with_reducible refine (ttell c fc dc gc ec (by assumption)).mono ?_); rintro e w' ⟨rfl, hb⟩) | (go_at_call 45; (with_reducible refine (ttell i fi di gi ei (by assumption)).mono ?_); rintro e w' ⟨rfl, hb⟩))
  have hS := Lib.hid (show VT w w' from And.left (by assumption))
  go_wp2
  go_ret
  exact ⟨ret_str ht.out, hS.out.1⟩
theorem ok_parts {n a b c i : Nat} (h : okB n a b c i = true) : fitB a (fA.getD n 0) = true ∧ fitB b (fB.getD n 0) = true ∧ fitB c (fC.getD n 0) = true ∧ fitB i (fI.getD n 0) = true := by
  simp only [okB, Bool.and_eq_true, Int.toNat_natCast] at h
  exact ⟨h.2.1, h.2.2.1, h.2.2.2.1, h.2.2.2.2⟩
theorem ctext_right (op a b c i : Int) (x y : Addr) (w : World) (hC : CodeAt (errC x) (errC y) w) (hT : Tells w) (hok : Hid (okB op a b c i = true)) (t : ByteArray) (ht : Hid (textC op a b c i = t)) :
    Calls Tryz.prog 25 #[.agg #[.int .i64 op, .int .i64 a, .int .i64 b, .int .i64 c, .int .i64 i]] w fun e w' => e = .returned (.string t) ∧ Below w.heap.size w w' := by
  have g := ok_bounds hok.out
  obtain ⟨n, rfl⟩ : ∃ n : Nat, op = n := ⟨op.toNat, by omega⟩
  obtain ⟨a, rfl⟩ : ∃ n : Nat, a = n := ⟨a.toNat, by omega⟩
  obtain ⟨b, rfl⟩ : ∃ n : Nat, b = n := ⟨b.toNat, by omega⟩
  obtain ⟨c, rfl⟩ : ∃ n : Nat, c = n := ⟨c.toNat, by omega⟩
  obtain ⟨i, rfl⟩ : ∃ n : Nat, i = n := ⟨i.toNat, by omega⟩
  obtain ⟨p1, p2, p3, p4⟩ := ok_parts hok.out
  have hF := hC.forms.one n (by omega)
  have zs : (nmC n).size ≤ 5 := nmC_size ⟨n, by omega⟩
  by_cases h3 : n = 3
  · subst h3
    exact ctext_alu 3 (by omega) (by omega) _ _ _ _ _ a b c i w x y hC hT hF hok (Lib.hid p1) (Lib.hid p2) (Lib.hid p3) (Lib.hid p4) _ _ _ _ (Lib.hid rfl) (Lib.hid rfl) (Lib.hid rfl) (Lib.hid rfl) zs (tell_size _ _ p1) (tell_size _ _ p2) (tell_size _ _ p3) (tell_size _ _ p4) (by decide) t (Lib.hid (by rw [← ht.out]; rfl))
  · exact ctext_any n (by omega) (by omega) _ _ _ _ _ a b c i w x y hC hT hF hok (Lib.hid p1) (Lib.hid p2) (Lib.hid p3) (Lib.hid p4) _ _ _ _ (Lib.hid rfl) (Lib.hid rfl) (Lib.hid rfl) (Lib.hid rfl) zs (tell_size _ _ p1) (tell_size _ _ p2) (tell_size _ _ p3) (tell_size _ _ p4) (by simp; omega) h3 t (Lib.hid (by rw [← ht.out]; unfold textC; rw [if_neg (by omega), Int.toNat_natCast]))
end Go.Proofs.YtaekccgcnlepaaaGreatDoor
