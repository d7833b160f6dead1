/- What the law asks first: the document's fixed answers, of layer 3. -/
import Derived.Deep.RegionHeld3
import Derived.Test.YteaodfeaidjcnaaGreatDoorVpJ
import Derived.Test.YteaodfeaidjcnaaGreatDoorVpK
import Derived.Test.YteaodfeaidjcnaaGreatDoorVpM
namespace Go.Proofs.YteaodfeaidjcnaaGreatDoor
open Go.RowKit

theorem vEq_self (v : Vl) : vEq v v = true := by unfold vEq; simp
theorem rd_15 : readV ⟨#[49, 46, 53, 48]⟩ = ⟨1, 15000, noText, false, 0⟩ := by kernel_rfl
theorem rd_true : readV ⟨#[116, 114, 117, 101]⟩ = ⟨3, 0, noText, true, 0⟩ := by kernel_rfl
theorem n_15 : vN 15000 = ⟨1, 15000, noText, false, 0⟩ := by kernel_rfl
theorem n_1 : vN 10000 = ⟨1, 10000, noText, false, 0⟩ := by kernel_rfl
theorem t_b : vT ⟨#[98]⟩ = ⟨2, 0, ⟨#[98]⟩, false, 0⟩ := by kernel_rfl
theorem t_a : vT ⟨#[65]⟩ = ⟨2, 0, ⟨#[65]⟩, false, 0⟩ := by kernel_rfl
theorem e_na : vE 6 = ⟨4, 0, noText, false, 6⟩ := by kernel_rfl
theorem ord_ba : ordV3 (vSound ⟨2, 0, ⟨#[98]⟩, false, 0⟩) (vSound ⟨2, 0, ⟨#[65]⟩, false, 0⟩) = (1, 0) := by kernel_rfl
theorem put_1 : putV ⟨1, 10000, noText, false, 0⟩ = (⟨#[1, 0, 0, 0, 0, 0, 0, 39, 16]⟩, 0) := by kernel_rfl
theorem show_na : showV (vSound ⟨4, 0, noText, false, 6⟩) = ⟨#[35, 78, 47, 65]⟩ := by kernel_rfl

set_option maxRecDepth 100000 in
set_option maxHeartbeats 4000000 in
theorem wakes_val (w : World) (he : Env3 w) :
    Calls Tryz.prog 12 #[] w fun e w' => e = .returned (.bool true) ∧ Below w.heap.size w w' := by
  have HE := hide he
  clear he
  have HR1 : Hid (∀ w, Env3 w → Calls Tryz.prog 18 #[.string ⟨#[49, 46, 53, 48]⟩] w fun e w' => e = .returned (.agg #[.int .i64 1, .int .i64 15000, .string ⟨#[]⟩, .bool false, .int .i64 0]) ∧ Below w.heap.size w w') := hide (fun w he => by have h := read_val ⟨#[49, 46, 53, 48]⟩ w (by decide) he; rw [rd_15] at h; exact h)
  have HR2 : Hid (∀ w, Env3 w → Calls Tryz.prog 18 #[.string ⟨#[116, 114, 117, 101]⟩] w fun e w' => e = .returned (.agg #[.int .i64 3, .int .i64 0, .string ⟨#[]⟩, .bool true, .int .i64 0]) ∧ Below w.heap.size w w') := hide (fun w he => by have h := read_val ⟨#[116, 114, 117, 101]⟩ w (by decide) he; rw [rd_true] at h; exact h)
  have HT1 : Hid (∀ w, Calls Tryz.prog 31 #[.string ⟨#[98]⟩] w fun e w' => e = .returned (.agg #[.int .i64 2, .int .i64 0, .string ⟨#[98]⟩, .bool false, .int .i64 0]) ∧ Below w.heap.size w w') := hide (fun w => by have h := t_val ⟨#[98]⟩ w (by decide); rw [t_b] at h; exact h)
  have HT2 : Hid (∀ w, Calls Tryz.prog 31 #[.string ⟨#[65]⟩] w fun e w' => e = .returned (.agg #[.int .i64 2, .int .i64 0, .string ⟨#[65]⟩, .bool false, .int .i64 0]) ∧ Below w.heap.size w w') := hide (fun w => by have h := t_val ⟨#[65]⟩ w (by decide); rw [t_a] at h; exact h)
  have HO : Hid (∀ w, Env3 w → Calls Tryz.prog 30 #[.agg #[.int .i64 2, .int .i64 0, .string ⟨#[98]⟩, .bool false, .int .i64 0], .agg #[.int .i64 2, .int .i64 0, .string ⟨#[65]⟩, .bool false, .int .i64 0]] w fun e w' => e = .returned (.tuple #[.int .i64 1, .int .i64 0]) ∧ Below w.heap.size w w') := hide (fun w he => by have h := order_val ⟨2, 0, ⟨#[98]⟩, false, 0⟩ ⟨2, 0, ⟨#[65]⟩, false, 0⟩ w (by decide) (by decide) he; rw [ord_ba] at h; exact h)
  have HN1 : Hid (∀ w, Calls Tryz.prog 32 #[.int .i64 10000] w fun e w' => e = .returned (.agg #[.int .i64 1, .int .i64 10000, .string ⟨#[]⟩, .bool false, .int .i64 0]) ∧ Below w.heap.size w w') := hide (fun w => by have h := n_val 10000 w; rw [n_1] at h; exact h)
  have HN2 : Hid (∀ w, Calls Tryz.prog 32 #[.int .i64 15000] w fun e w' => e = .returned (.agg #[.int .i64 1, .int .i64 15000, .string ⟨#[]⟩, .bool false, .int .i64 0]) ∧ Below w.heap.size w w') := hide (fun w => by have h := n_val 15000 w; rw [n_15] at h; exact h)
  have HP : Hid (∀ w, Calls Tryz.prog 15 #[.agg #[.int .i64 1, .int .i64 10000, .string ⟨#[]⟩, .bool false, .int .i64 0]] w fun e w' => e = .returned (.tuple #[.string ⟨#[1, 0, 0, 0, 0, 0, 0, 39, 16]⟩, .int .i64 0]) ∧ Below w.heap.size w w') := hide (fun w => by have h := put_val ⟨1, 10000, noText, false, 0⟩ w (by decide); rw [put_1] at h; exact h)
  have HBT : Hid (∀ w, Calls Tryz.prog 33 #[.bool true] w fun e w' => e = .returned (.agg #[.int .i64 3, .int .i64 0, .string ⟨#[]⟩, .bool true, .int .i64 0]) ∧ Below w.heap.size w w') := hide (fun w => b_val true w)
  have HEN : Hid (∀ w, Calls Tryz.prog 34 #[.int .i64 6] w fun e w' => e = .returned (.agg #[.int .i64 4, .int .i64 0, .string ⟨#[]⟩, .bool false, .int .i64 6]) ∧ Below w.heap.size w w') := hide (fun w => by have h := e_val 6 w; rw [e_na] at h; exact h)
  have HSH : Hid (∀ w, Env3 w → Calls Tryz.prog 13 #[.agg #[.int .i64 4, .int .i64 0, .string ⟨#[]⟩, .bool false, .int .i64 6]] w fun e w' => e = .returned (.string ⟨#[35, 78, 47, 65]⟩) ∧ Below w.heap.size w w') := hide (fun w he => by have h := show_val ⟨4, 0, noText, false, 6⟩ w (by decide) he; rw [show_na] at h; exact h)
  have hq1 : ∀ w, (binOp .eql 28 (.agg #[.int .i64 1, .int .i64 15000, .string ⟨#[]⟩, .bool false, .int .i64 0]) (.agg #[.int .i64 1, .int .i64 15000, .string ⟨#[]⟩, .bool false, .int .i64 0])).run Tryz.prog w = .ok (.bool true) w := fun w => by rw [vl_eq, vEq_self]
  have hq2 : ∀ w, (binOp .eql 28 (.agg #[.int .i64 3, .int .i64 0, .string ⟨#[]⟩, .bool true, .int .i64 0]) (.agg #[.int .i64 3, .int .i64 0, .string ⟨#[]⟩, .bool true, .int .i64 0])).run Tryz.prog w = .ok (.bool true) w := fun w => by rw [vl_eq, vEq_self]
  go_enter Tryz.func12, Tryz.ntmps12
  go_wp2_with fail
  refine (unhide HR1 _ (unhide HE)).mono ?_
  rintro e w1 ⟨rfl, b1⟩
  have HF := hide (five_new w1 28 (.int .i64 1) (.int .i64 15000) (.string ⟨#[]⟩) (.bool false) (.int .i64 0))
  have HB := hide (below_nx b1 (below_al w1 (.cells #[.int .i64 1, .int .i64 15000, .string ⟨#[]⟩, .bool false, .int .i64 0] 28)))
  clear b1
  go_wp2_with fail
  refine (unhide HT1 _).mono ?_
  rintro e w2 ⟨rfl, b2⟩
  replace HF := hide (five_below (unhide HF) b2 (five_lt (unhide HF)))
  replace HB := hide (below_nx (unhide HB) b2)
  clear b2
  go_wp2_with fail
  refine (unhide HT2 _).mono ?_
  rintro e w3 ⟨rfl, b3⟩
  replace HF := hide (five_below (unhide HF) b3 (five_lt (unhide HF)))
  replace HB := hide (below_nx (unhide HB) b3)
  clear b3
  go_wp2_with fail
  refine (unhide HO _ ((unhide HE).below (unhide HB))).mono ?_
  rintro e w4 ⟨rfl, b4⟩
  replace HF := hide (five_below (unhide HF) b4 (five_lt (unhide HF)))
  replace HB := hide (below_nx (unhide HB) b4)
  clear b4
  go_wp2_with fail
  refine (unhide HN1 _).mono ?_
  rintro e w5 ⟨rfl, b5⟩
  replace HF := hide (five_below (unhide HF) b5 (five_lt (unhide HF)))
  replace HB := hide (below_nx (unhide HB) b5)
  clear b5
  go_wp2_with fail
  refine (unhide HP _).mono ?_
  rintro e w6 ⟨rfl, b6⟩
  replace HF := hide (five_below (unhide HF) b6 (five_lt (unhide HF)))
  replace HB := hide (below_nx (unhide HB) b6)
  clear b6
  obtain ⟨c0, c1, c2, c3, c4⟩ := five_cells (unhide HF)
  go_wp2_with fail
  go_region_held3 (fun w' => w'.cell? ⟨w1.heap.size, 0, none⟩ = some (.int .i64 1) ∧ w'.cell? ⟨w1.heap.size, 1, none⟩ = some (.int .i64 15000) ∧ w'.cell? ⟨w1.heap.size, 2, none⟩ = some (.string ⟨#[]⟩) ∧ w'.cell? ⟨w1.heap.size, 3, none⟩ = some (.bool false) ∧ w'.cell? ⟨w1.heap.size, 4, none⟩ = some (.int .i64 0)) (first | exact ⟨c0, c1, c2, c3, c4⟩ | go_keep)
    (first
    | (go_at_call 32; refine (unhide HN2 _).mono ?_; rintro e y1 ⟨rfl, z1⟩; have HF1 := hide (five_below (five_drew (unhide HF)) z1 (five_lt (five_drew (unhide HF)))); have HB1 := hide (below_nx (unhide HB).drew z1); clear z1; clear c0 c1 c2 c3 c4; obtain ⟨c0, c1, c2, c3, c4⟩ := five_cells (unhide HF1))
    | (go_at_call 18; refine (unhide HR2 _ ((unhide HE).below (unhide HB1))).mono ?_; rintro e y2 ⟨rfl, z2⟩; have HF2 := hide (five_below (unhide HF1) z2 (five_lt (unhide HF1))); have HB2 := hide (below_nx (unhide HB1) z2); clear z2; clear c0 c1 c2 c3 c4; obtain ⟨c0, c1, c2, c3, c4⟩ := five_cells (unhide HF2))
    | (go_at_call 33; refine (unhide HBT _).mono ?_; rintro e y3 ⟨rfl, z3⟩; have HF3 := hide (five_below (unhide HF2) z3 (five_lt (unhide HF2))); have HB3 := hide (below_nx (unhide HB2) z3); clear z3; clear c0 c1 c2 c3 c4; obtain ⟨c0, c1, c2, c3, c4⟩ := five_cells (unhide HF3))
    | (go_at_call 34; refine (unhide HEN _).mono ?_; rintro e y4 ⟨rfl, z4⟩; have HF4 := hide (five_below (unhide HF3) z4 (five_lt (unhide HF3))); have HB4 := hide (below_nx (unhide HB3) z4); clear z4; clear c0 c1 c2 c3 c4; obtain ⟨c0, c1, c2, c3, c4⟩ := five_cells (unhide HF4))
    | (go_at_call 13; refine (unhide HSH _ ((unhide HE).below (unhide HB4))).mono ?_; rintro e y5 ⟨rfl, z5⟩; have HF5 := hide (five_below (unhide HF4) z5 (five_lt (unhide HF4))); have HB5 := hide (below_nx (unhide HB4) z5); clear z5; clear c0 c1 c2 c3 c4; obtain ⟨c0, c1, c2, c3, c4⟩ := five_cells (unhide HF5)))
  all_goals (try go_wp2_with fail)
  all_goals go_ret
  all_goals exact ⟨rfl, unhide HB5⟩
end Go.Proofs.YteaodfeaidjcnaaGreatDoor
