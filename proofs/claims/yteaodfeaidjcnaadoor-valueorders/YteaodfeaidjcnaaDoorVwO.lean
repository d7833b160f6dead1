/- The walk of ValueOrders. -/
import Derived.Test.YteaodfeaidjcnaaDoorVpV
import Derived.Test.YteaodfeaidjcnaaDoorVpW
import Derived.Test.YteaodfeaidjcnaaDoorVrK
namespace Go.Proofs.YteaodfeaidjcnaaDoor
open Go.RowKit

set_option maxRecDepth 100000 in
set_option maxHeartbeats 4000000 in
theorem orders_law (x y : Vl) (w : World) (hx : x.text.size ≤ maxLen) (hy : y.text.size ≤ maxLen) (he : Env3 w) :
    Calls Tryd.prog 4 #[.agg x.cells, .agg y.cells] w fun e w' => e = .returned (.bool true) ∧ Below w.heap.size w w' := by
  have HE := hide he
  clear he
  have HVX := hide (fun w => values_law x w hx)
  clear hx
  have SX : Hid ((cutV x).text.size ≤ 300) := hide (cutT_size x.text)
  obtain ⟨X, eX⟩ : ∃ X, cutV x = X := ⟨_, rfl⟩
  rw [eX] at HVX SX
  clear eX
  have HVY := hide (fun w => values_law y w hy)
  clear hy
  have SY : Hid ((cutV y).text.size ≤ 300) := hide (cutT_size y.text)
  obtain ⟨Y, eY⟩ : ∃ Y, cutV y = Y := ⟨_, rfl⟩
  rw [eY] at HVY SY
  clear eY
  have HP := hide (fun w (he : Env3 w) => order_val X Y w (by have := unhide SX; omega) (by have := unhide SY; omega) he)
  have HR := hide (fun w => order_ref X Y w (by have := unhide SX; omega) (by have := unhide SY; omega))
  obtain ⟨r, er⟩ : ∃ r, ordV3 (vSound X) (vSound Y) = r := ⟨_, rfl⟩
  rw [er] at HP HR
  clear er
  obtain ⟨n, m⟩ := r
  have HWK := hide wakes_val
  unfold Vl.cells at HVX HVY HP HR ⊢
  simp only [] at HP HR
  go_enter Tryd.func4, Tryd.ntmps4
  go_upto_region 1 with fail
  have PX := hide (five_old w 23 (.int .i64 x.kind) (.int .i64 x.num) (.string x.text) (.bool x.tr) (.int .i64 x.fail) (.cells #[.int .i64 y.kind, .int .i64 y.num, .string y.text, .bool y.tr, .int .i64 y.fail] 23))
  have PY := hide (five_new2 w (.cells #[.int .i64 x.kind, .int .i64 x.num, .string x.text, .bool x.tr, .int .i64 x.fail] 23) 23 (.int .i64 y.kind) (.int .i64 y.num) (.string y.text) (.bool y.tr) (.int .i64 y.fail))
  have HB := hide (below_al2 w (.cells #[.int .i64 x.kind, .int .i64 x.num, .string x.text, .bool x.tr, .int .i64 x.fail] 23) (.cells #[.int .i64 y.kind, .int .i64 y.num, .string y.text, .bool y.tr, .int .i64 y.fail] 23))
  generalize hW : (w.alloc (.cells #[.int .i64 x.kind, .int .i64 x.num, .string x.text, .bool x.tr, .int .i64 x.fail] 23)).alloc (.cells #[.int .i64 y.kind, .int .i64 y.num, .string y.text, .bool y.tr, .int .i64 y.fail] 23) = W0 at PX PY HB ⊢
  clear hW
  obtain ⟨px_0, px_1, px_2, px_3, px_4⟩ := five_cells (unhide PX)
  go_wp2_with fail
  refine (unhide HVX _).mono ?_
  rintro e w1 ⟨rfl, b1⟩
  replace PX := hide (five_below (unhide PX) b1 (five_lt (unhide PX)))
  replace PY := hide (five_below (unhide PY) b1 (five_lt (unhide PY)))
  replace HB := hide (below_nx (unhide HB) b1)
  clear b1 px_0 px_1 px_2 px_3 px_4
  have A := hide (five_old w1 28 (.int .i64 X.kind) (.int .i64 X.num) (.string X.text) (.bool X.tr) (.int .i64 X.fail) (.cells #[.int .i64 X.kind, .int .i64 X.num, .string X.text, .bool X.tr, .int .i64 X.fail] 29))
  have RA := hide (five_new2 w1 (.cells #[.int .i64 X.kind, .int .i64 X.num, .string X.text, .bool X.tr, .int .i64 X.fail] 28) 29 (.int .i64 X.kind) (.int .i64 X.num) (.string X.text) (.bool X.tr) (.int .i64 X.fail))
  have bb := below_al2 w1 (.cells #[.int .i64 X.kind, .int .i64 X.num, .string X.text, .bool X.tr, .int .i64 X.fail] 28) (.cells #[.int .i64 X.kind, .int .i64 X.num, .string X.text, .bool X.tr, .int .i64 X.fail] 29)
  replace PX := hide (five_below (unhide PX) bb (five_lt (unhide PX)))
  replace PY := hide (five_below (unhide PY) bb (five_lt (unhide PY)))
  replace HB := hide (below_nx (unhide HB) bb)
  clear bb
  go_upto_region 2 with fail
  generalize hW : (w1.alloc (.cells #[.int .i64 X.kind, .int .i64 X.num, .string X.text, .bool X.tr, .int .i64 X.fail] 28)).alloc (.cells #[.int .i64 X.kind, .int .i64 X.num, .string X.text, .bool X.tr, .int .i64 X.fail] 29) = W1 at A RA HB PX PY ⊢
  clear hW
  clear PX
  obtain ⟨py_0, py_1, py_2, py_3, py_4⟩ := five_cells (unhide PY)
  go_wp2_with fail
  refine (unhide HVY _).mono ?_
  rintro e w2 ⟨rfl, b2⟩
  replace PY := hide (five_below (unhide PY) b2 (five_lt (unhide PY)))
  replace A := hide (five_below (unhide A) b2 (five_lt (unhide A)))
  replace RA := hide (five_below (unhide RA) b2 (five_lt (unhide RA)))
  replace HB := hide (below_nx (unhide HB) b2)
  clear b2 py_0 py_1 py_2 py_3 py_4
  have C := hide (five_old w2 28 (.int .i64 Y.kind) (.int .i64 Y.num) (.string Y.text) (.bool Y.tr) (.int .i64 Y.fail) (.cells #[.int .i64 Y.kind, .int .i64 Y.num, .string Y.text, .bool Y.tr, .int .i64 Y.fail] 29))
  have RC := hide (five_new2 w2 (.cells #[.int .i64 Y.kind, .int .i64 Y.num, .string Y.text, .bool Y.tr, .int .i64 Y.fail] 28) 29 (.int .i64 Y.kind) (.int .i64 Y.num) (.string Y.text) (.bool Y.tr) (.int .i64 Y.fail))
  have bb := below_al2 w2 (.cells #[.int .i64 Y.kind, .int .i64 Y.num, .string Y.text, .bool Y.tr, .int .i64 Y.fail] 28) (.cells #[.int .i64 Y.kind, .int .i64 Y.num, .string Y.text, .bool Y.tr, .int .i64 Y.fail] 29)
  replace PY := hide (five_below (unhide PY) bb (five_lt (unhide PY)))
  replace A := hide (five_below (unhide A) bb (five_lt (unhide A)))
  replace RA := hide (five_below (unhide RA) bb (five_lt (unhide RA)))
  replace HB := hide (below_nx (unhide HB) bb)
  clear bb
  go_upto_region 3 with fail
  generalize hW : (w2.alloc (.cells #[.int .i64 Y.kind, .int .i64 Y.num, .string Y.text, .bool Y.tr, .int .i64 Y.fail] 28)).alloc (.cells #[.int .i64 Y.kind, .int .i64 Y.num, .string Y.text, .bool Y.tr, .int .i64 Y.fail] 29) = W2 at C RC HB PY A RA ⊢
  clear hW
  clear PY
  obtain ⟨a_0, a_1, a_2, a_3, a_4⟩ := five_cells (unhide A)
  obtain ⟨c_0, c_1, c_2, c_3, c_4⟩ := five_cells (unhide C)
  go_wp2_with fail
  refine (unhide HP _ ((unhide HE).below (unhide HB))).mono ?_
  rintro e w3 ⟨rfl, b3⟩
  replace A := hide (five_below (unhide A) b3 (five_lt (unhide A)))
  replace RA := hide (five_below (unhide RA) b3 (five_lt (unhide RA)))
  replace C := hide (five_below (unhide C) b3 (five_lt (unhide C)))
  replace RC := hide (five_below (unhide RC) b3 (five_lt (unhide RC)))
  replace HB := hide (below_nx (unhide HB) b3)
  clear b3 a_0 a_1 a_2 a_3 a_4 c_0 c_1 c_2 c_3 c_4
  obtain ⟨ra_0, ra_1, ra_2, ra_3, ra_4⟩ := five_cells (unhide RA)
  obtain ⟨rc_0, rc_1, rc_2, rc_3, rc_4⟩ := five_cells (unhide RC)
  go_wp2_with fail
  refine (unhide HR _).mono ?_
  rintro e w4 ⟨rfl, b4⟩
  replace A := hide (five_below (unhide A) b4 (five_lt (unhide A)))
  replace RA := hide (five_below (unhide RA) b4 (five_lt (unhide RA)))
  replace C := hide (five_below (unhide C) b4 (five_lt (unhide C)))
  replace RC := hide (five_below (unhide RC) b4 (five_lt (unhide RC)))
  replace HB := hide (below_nx (unhide HB) b4)
  clear b4 ra_0 ra_1 ra_2 ra_3 ra_4 rc_0 rc_1 rc_2 rc_3 rc_4
  clear A
  clear RA
  clear C
  clear RC
  go_wp2_with fail
  refine (unhide HWK _ ((unhide HE).below (unhide HB))).mono ?_
  rintro e w5 ⟨rfl, b5⟩
  replace HB := hide (below_nx (unhide HB) b5)
  clear b5
  go_wp2
  go_ret
  exact ⟨rfl, unhide HB⟩
end Go.Proofs.YteaodfeaidjcnaaDoor
