/- The walk of ValueShows. -/
import Derived.Deep.RegionHeld3
import Derived.Test.YteaodfeaidjcnaaGreatDoorVpV
import Derived.Test.YteaodfeaidjcnaaGreatDoorVpW
import Derived.Test.YteaodfeaidjcnaaGreatDoorVrK
namespace Go.Proofs.YteaodfeaidjcnaaGreatDoor
open Go.RowKit

set_option maxRecDepth 100000 in
set_option maxHeartbeats 8000000 in
theorem shows_law (x : Vl) (w : World) (hx : x.text.size ≤ maxLen) (he : Env3 w) :
    Calls Tryz.prog 3 #[.agg x.cells] w fun e w' => e = .returned (.bool true) ∧ Below w.heap.size w w' := by
  have HE := hide he
  clear he
  have HVX := hide (fun w => values_law x w hx)
  clear hx
  have SX : Hid ((cutV x).text.size ≤ 300) := hide (cutT_size x.text)
  obtain ⟨X, eX⟩ : ∃ X, cutV x = X := ⟨_, rfl⟩
  rw [eX] at HVX SX
  clear eX
  have HWK := hide wakes_val
  have HN1 := hide (fun w (he : Env3 w) => asnum_val X w (by have := unhide SX; omega) he)
  have HN2 := hide (fun w => asnum_ref X w (by have := unhide SX; omega))
  obtain ⟨rn, ern⟩ : ∃ c, asNumV (vSound X) = c := ⟨_, rfl⟩
  rw [ern] at HN1 HN2
  clear ern
  have HT1 := hide (fun w (he : Env3 w) => astext_val X w (by have := unhide SX; omega) he)
  have HT2 := hide (fun w => astext_ref X w (by have := unhide SX; omega))
  obtain ⟨rt, ert⟩ : ∃ c, asTextV (vSound X) = c := ⟨_, rfl⟩
  rw [ert] at HT1 HT2
  clear ert
  have HC1 := hide (fun w => asbool_val X w (by have := unhide SX; omega))
  have HC2 := hide (fun w => asbool_ref X w (by have := unhide SX; omega))
  obtain ⟨rb, erb⟩ : ∃ c, asBoolV (vSound X) = c := ⟨_, rfl⟩
  rw [erb] at HC1 HC2
  clear erb
  have HS1 := hide (fun w (he : Env3 w) => show_val X w (by have := unhide SX; omega) he)
  have HS2 := hide (fun w => show_ref X w (by have := unhide SX; omega))
  obtain ⟨rs, ers⟩ : ∃ c, showV (vSound X) = c := ⟨_, rfl⟩
  rw [ers] at HS1 HS2
  clear ers
  obtain ⟨n1, n2⟩ := rn
  obtain ⟨t1, t2⟩ := rt
  obtain ⟨b1, b2⟩ := rb
  simp only [] at HN1 HN2 HT1 HT2 HC1 HC2
  unfold Vl.cells at HVX HN1 HN2 HT1 HT2 HC1 HC2 HS1 HS2 ⊢
  go_enter Tryz.func3, Tryz.ntmps3
  go_upto_region 1 with fail
  have PX := hide (five_new w 23 (.int .i64 x.kind) (.int .i64 x.num) (.string x.text) (.bool x.tr) (.int .i64 x.fail))
  have HB := hide (below_al w (.cells #[.int .i64 x.kind, .int .i64 x.num, .string x.text, .bool x.tr, .int .i64 x.fail] 23))
  generalize hW : w.alloc (.cells #[.int .i64 x.kind, .int .i64 x.num, .string x.text, .bool x.tr, .int .i64 x.fail] 23) = W0 at PX HB ⊢
  clear hW
  obtain ⟨px_0, px_1, px_2, px_3, px_4⟩ := five_cells (unhide PX)
  go_wp2_with fail
  refine (unhide HVX _).mono ?_
  rintro e w1 ⟨rfl, b1⟩
  replace PX := hide (five_below (unhide PX) b1 (five_lt (unhide PX)))
  replace HB := hide (below_nx (unhide HB) b1)
  clear b1 px_0 px_1 px_2 px_3 px_4
  have A := hide (five_old w1 28 (.int .i64 X.kind) (.int .i64 X.num) (.string X.text) (.bool X.tr) (.int .i64 X.fail) (.cells #[.int .i64 X.kind, .int .i64 X.num, .string X.text, .bool X.tr, .int .i64 X.fail] 29))
  have RA := hide (five_new2 w1 (.cells #[.int .i64 X.kind, .int .i64 X.num, .string X.text, .bool X.tr, .int .i64 X.fail] 28) 29 (.int .i64 X.kind) (.int .i64 X.num) (.string X.text) (.bool X.tr) (.int .i64 X.fail))
  have bb := below_al2 w1 (.cells #[.int .i64 X.kind, .int .i64 X.num, .string X.text, .bool X.tr, .int .i64 X.fail] 28) (.cells #[.int .i64 X.kind, .int .i64 X.num, .string X.text, .bool X.tr, .int .i64 X.fail] 29)
  replace PX := hide (five_below (unhide PX) bb (five_lt (unhide PX)))
  replace HB := hide (below_nx (unhide HB) bb)
  clear bb
  go_upto_region 2 with fail
  generalize hW : (w1.alloc (.cells #[.int .i64 X.kind, .int .i64 X.num, .string X.text, .bool X.tr, .int .i64 X.fail] 28)).alloc (.cells #[.int .i64 X.kind, .int .i64 X.num, .string X.text, .bool X.tr, .int .i64 X.fail] 29) = W1 at A RA HB PX ⊢
  clear hW
  clear PX
  obtain ⟨a_0, a_1, a_2, a_3, a_4⟩ := five_cells (unhide A)
  go_wp2_with fail
  refine (unhide HN1 _ ((unhide HE).below (unhide HB))).mono ?_
  rintro e w11 ⟨rfl, b11⟩
  replace A := hide (five_below (unhide A) b11 (five_lt (unhide A)))
  replace RA := hide (five_below (unhide RA) b11 (five_lt (unhide RA)))
  replace HB := hide (below_nx (unhide HB) b11)
  clear b11 a_0 a_1 a_2 a_3 a_4
  obtain ⟨ra_0, ra_1, ra_2, ra_3, ra_4⟩ := five_cells (unhide RA)
  go_wp2_with fail
  refine (unhide HN2 _).mono ?_
  rintro e w12 ⟨rfl, b12⟩
  replace A := hide (five_below (unhide A) b12 (five_lt (unhide A)))
  replace RA := hide (five_below (unhide RA) b12 (five_lt (unhide RA)))
  replace HB := hide (below_nx (unhide HB) b12)
  clear b12 ra_0 ra_1 ra_2 ra_3 ra_4
  obtain ⟨a_0, a_1, a_2, a_3, a_4⟩ := five_cells (unhide A)
  go_wp2_with fail
  refine (unhide HT1 _ ((unhide HE).below (unhide HB))).mono ?_
  rintro e w13 ⟨rfl, b13⟩
  replace A := hide (five_below (unhide A) b13 (five_lt (unhide A)))
  replace RA := hide (five_below (unhide RA) b13 (five_lt (unhide RA)))
  replace HB := hide (below_nx (unhide HB) b13)
  clear b13 a_0 a_1 a_2 a_3 a_4
  obtain ⟨ra_0, ra_1, ra_2, ra_3, ra_4⟩ := five_cells (unhide RA)
  go_wp2_with fail
  refine (unhide HT2 _).mono ?_
  rintro e w14 ⟨rfl, b14⟩
  replace A := hide (five_below (unhide A) b14 (five_lt (unhide A)))
  replace RA := hide (five_below (unhide RA) b14 (five_lt (unhide RA)))
  replace HB := hide (below_nx (unhide HB) b14)
  clear b14 ra_0 ra_1 ra_2 ra_3 ra_4
  obtain ⟨a_0, a_1, a_2, a_3, a_4⟩ := five_cells (unhide A)
  go_wp2_with fail
  refine (unhide HC1 _).mono ?_
  rintro e w15 ⟨rfl, b15⟩
  replace A := hide (five_below (unhide A) b15 (five_lt (unhide A)))
  replace RA := hide (five_below (unhide RA) b15 (five_lt (unhide RA)))
  replace HB := hide (below_nx (unhide HB) b15)
  clear b15 a_0 a_1 a_2 a_3 a_4
  obtain ⟨ra_0, ra_1, ra_2, ra_3, ra_4⟩ := five_cells (unhide RA)
  go_wp2_with fail
  refine (unhide HC2 _).mono ?_
  rintro e w16 ⟨rfl, b16⟩
  replace A := hide (five_below (unhide A) b16 (five_lt (unhide A)))
  replace RA := hide (five_below (unhide RA) b16 (five_lt (unhide RA)))
  replace HB := hide (below_nx (unhide HB) b16)
  clear b16 ra_0 ra_1 ra_2 ra_3 ra_4
  go_upto_region 8 with fail
  replace A := hide (five_drew (unhide A))
  replace RA := hide (five_drew (unhide RA))
  replace HB := hide (unhide HB).drew
  obtain ⟨a_0, a_1, a_2, a_3, a_4⟩ := five_cells (unhide A)
  obtain ⟨ra_0, ra_1, ra_2, ra_3, ra_4⟩ := five_cells (unhide RA)
  go_region_held3 (fun w' => w'.cell? ⟨w1.heap.size, 0, none⟩ = some (.int .i64 X.kind) ∧ w'.cell? ⟨w1.heap.size, 1, none⟩ = some (.int .i64 X.num) ∧ w'.cell? ⟨w1.heap.size, 2, none⟩ = some (.string X.text) ∧ w'.cell? ⟨w1.heap.size, 3, none⟩ = some (.bool X.tr) ∧ w'.cell? ⟨w1.heap.size, 4, none⟩ = some (.int .i64 X.fail) ∧ w'.cell? ⟨w1.heap.size + 1, 0, none⟩ = some (.int .i64 X.kind) ∧ w'.cell? ⟨w1.heap.size + 1, 1, none⟩ = some (.int .i64 X.num) ∧ w'.cell? ⟨w1.heap.size + 1, 2, none⟩ = some (.string X.text) ∧ w'.cell? ⟨w1.heap.size + 1, 3, none⟩ = some (.bool X.tr) ∧ w'.cell? ⟨w1.heap.size + 1, 4, none⟩ = some (.int .i64 X.fail)) (first | exact ⟨a_0, a_1, a_2, a_3, a_4, ra_0, ra_1, ra_2, ra_3, ra_4⟩ | go_keep)
    (first
      | (go_at_call 12; refine (unhide HWK _ ((unhide HE).below (unhide HB))).mono ?_; rintro e yy ⟨rfl, zz⟩; replace A := hide (five_below (unhide A) zz (five_lt (unhide A))); replace RA := hide (five_below (unhide RA) zz (five_lt (unhide RA))); replace HB := hide (below_nx (unhide HB) zz); clear zz a_0 a_1 a_2 a_3 a_4 ra_0 ra_1 ra_2 ra_3 ra_4; obtain ⟨a_0, a_1, a_2, a_3, a_4⟩ := five_cells (unhide A); obtain ⟨ra_0, ra_1, ra_2, ra_3, ra_4⟩ := five_cells (unhide RA))
      | (go_at_call 13; refine (unhide HS1 _ ((unhide HE).below (unhide HB))).mono ?_; rintro e yy ⟨rfl, zz⟩; replace A := hide (five_below (unhide A) zz (five_lt (unhide A))); replace RA := hide (five_below (unhide RA) zz (five_lt (unhide RA))); replace HB := hide (below_nx (unhide HB) zz); clear zz a_0 a_1 a_2 a_3 a_4 ra_0 ra_1 ra_2 ra_3 ra_4; obtain ⟨a_0, a_1, a_2, a_3, a_4⟩ := five_cells (unhide A); obtain ⟨ra_0, ra_1, ra_2, ra_3, ra_4⟩ := five_cells (unhide RA))
      | (go_at_call 14; refine (unhide HS2 _).mono ?_; rintro e yy ⟨rfl, zz⟩; replace A := hide (five_below (unhide A) zz (five_lt (unhide A))); replace RA := hide (five_below (unhide RA) zz (five_lt (unhide RA))); replace HB := hide (below_nx (unhide HB) zz); clear zz a_0 a_1 a_2 a_3 a_4 ra_0 ra_1 ra_2 ra_3 ra_4; obtain ⟨a_0, a_1, a_2, a_3, a_4⟩ := five_cells (unhide A); obtain ⟨ra_0, ra_1, ra_2, ra_3, ra_4⟩ := five_cells (unhide RA)))
  all_goals (try go_wp2_with fail)
  all_goals go_ret
  all_goals exact ⟨rfl, unhide HB⟩
end Go.Proofs.YteaodfeaidjcnaaGreatDoor
