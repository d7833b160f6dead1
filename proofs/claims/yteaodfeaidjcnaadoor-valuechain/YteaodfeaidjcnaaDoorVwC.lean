/- The walk of ValueChain. -/
import Derived.Test.YteaodfeaidjcnaaDoorVpV
import Derived.Test.YteaodfeaidjcnaaDoorVpW
import Derived.Test.YteaodfeaidjcnaaDoorVwC0
namespace Go.Proofs.YteaodfeaidjcnaaDoor
open Go.RowKit

theorem five_al3 (w : World) (t : TypeId) (a b c : Array Value) (ha : a.size = 5) (hb : b.size = 5) (hc : c.size = 5) :
    FiveAt (((w.alloc (.cells a t)).alloc (.cells b t)).alloc (.cells c t)) w.heap.size t a ∧ FiveAt (((w.alloc (.cells a t)).alloc (.cells b t)).alloc (.cells c t)) (w.heap.size + 1) t b ∧ FiveAt (((w.alloc (.cells a t)).alloc (.cells b t)).alloc (.cells c t)) (w.heap.size + 1 + 1) t c := by
  refine ⟨⟨?_, ha⟩, ⟨?_, hb⟩, ⟨?_, hc⟩⟩
  · show (((w.heap.push _).push _).push _)[w.heap.size]? = _
    rw [Array.getElem?_push, if_neg (by simp; omega), Array.getElem?_push, if_neg (by simp), Array.getElem?_push, if_pos rfl]
  · exact heap3_1 w _ _ _
  · exact heap3_2 w _ _ _
theorem below_al3p (w : World) (o p q : Obj) : Below w.heap.size w (((w.alloc o).alloc p).alloc q) := (below_al2 w o p).alloc (by simp; omega) _
theorem three_of (q : Int) (h : -1 ≤ q ∧ q ≤ 1) : q = -1 ∨ q = 0 ∨ q = 1 := by omega
theorem beq_kind (k : Int) (h : (k == 0) = false) : k ≠ 0 := by rw [beq_eq_false_iff_ne] at h; exact h

set_option maxRecDepth 100000 in
set_option maxHeartbeats 8000000 in
theorem chain_law (x y z : Vl) (w : World) (hx : x.text.size ≤ maxLen) (hy : y.text.size ≤ maxLen) (hz : z.text.size ≤ maxLen) (he : Env3 w) :
    Calls Tryd.prog 6 #[.agg x.cells, .agg y.cells, .agg z.cells] w fun e w' => e = .returned (.bool true) ∧ Below w.heap.size w w' := by
  have HE := hide he
  clear he
  have HVX := hide (fun w => values_law x w hx)
  clear hx
  have SX : Hid ((cutV x).text.size ≤ 300) := hide (cutT_size x.text)
  obtain ⟨X, eX⟩ : ∃ X, cutV x = X := ⟨_, rfl⟩
  rw [eX] at HVX SX
  clear eX
  have HVY := hide (fun w => values_law y w hy)
  clear hy
  have SY : Hid ((cutV y).text.size ≤ 300) := hide (cutT_size y.text)
  obtain ⟨Y, eY⟩ : ∃ Y, cutV y = Y := ⟨_, rfl⟩
  rw [eY] at HVY SY
  clear eY
  have HVZ := hide (fun w => values_law z w hz)
  clear hz
  have SZ : Hid ((cutV z).text.size ≤ 300) := hide (cutT_size z.text)
  obtain ⟨Z, eZ⟩ : ∃ Z, cutV z = Z := ⟨_, rfl⟩
  rw [eZ] at HVZ SZ
  clear eZ
  have HP1 := hide (fun w (he : Env3 w) => order_val X Y w (by have := unhide SX; omega) (by have := unhide SY; omega) he)
  have HP2 := hide (fun w (he : Env3 w) => order_val Y X w (by have := unhide SY; omega) (by have := unhide SX; omega) he)
  have HP3 := hide (fun w (he : Env3 w) => order_val Y Z w (by have := unhide SY; omega) (by have := unhide SZ; omega) he)
  have HP4 := hide (fun w (he : Env3 w) => order_val X Z w (by have := unhide SX; omega) (by have := unhide SZ; omega) he)
  have T1 := hide (ord_turn (vSound X) (vSound Y) (sound_good X) (sound_good Y))
  have T2 := hide (ord_turn (vSound Y) (vSound Z) (sound_good Y) (sound_good Z))
  have T3 := hide (ord_turn (vSound Z) (vSound Y) (sound_good Z) (sound_good Y))
  have T4 := hide (ord_turn (vSound Z) (vSound X) (sound_good Z) (sound_good X))
  have TC := hide (fun hX hY hZ p r s => ord_chain X Y Z hX hY hZ p r s)
  obtain ⟨r1, e1⟩ : ∃ r, ordV3 (vSound X) (vSound Y) = r := ⟨_, rfl⟩
  obtain ⟨r2, e2⟩ : ∃ r, ordV3 (vSound Y) (vSound X) = r := ⟨_, rfl⟩
  obtain ⟨r3, e3⟩ : ∃ r, ordV3 (vSound Y) (vSound Z) = r := ⟨_, rfl⟩
  obtain ⟨r4, e4⟩ : ∃ r, ordV3 (vSound X) (vSound Z) = r := ⟨_, rfl⟩
  replace T3 := hide (unhide T3).2.2
  replace T4 := hide (unhide T4).2.2
  rw [e1] at HP1 TC
  rw [e2] at HP2
  rw [e3] at HP3 TC T3
  rw [e4] at HP4 TC T4
  rw [e1, e2] at T1
  clear e1 e2 e3 e4 T2
  obtain ⟨p, e⟩ := r1
  obtain ⟨q, f⟩ := r2
  obtain ⟨r, g⟩ := r3
  obtain ⟨s, h⟩ := r4
  have HWK := hide wakes_val
  unfold Vl.cells at HVX HVY HVZ HP1 HP2 HP3 HP4 ⊢
  simp only [] at HP1 HP2 HP3 HP4 T1 T3 T4
  go_enter Tryd.func6, Tryd.ntmps6
  go_upto_region 1 with fail
  have P0 := five_al3 w 23 #[.int .i64 x.kind, .int .i64 x.num, .string x.text, .bool x.tr, .int .i64 x.fail] #[.int .i64 y.kind, .int .i64 y.num, .string y.text, .bool y.tr, .int .i64 y.fail] #[.int .i64 z.kind, .int .i64 z.num, .string z.text, .bool z.tr, .int .i64 z.fail] rfl rfl rfl
  have PX := hide P0.1
  have PY := hide P0.2.1
  have PZ := hide P0.2.2
  clear P0
  have HB := hide (below_al3p w (.cells #[.int .i64 x.kind, .int .i64 x.num, .string x.text, .bool x.tr, .int .i64 x.fail] 23) (.cells #[.int .i64 y.kind, .int .i64 y.num, .string y.text, .bool y.tr, .int .i64 y.fail] 23) (.cells #[.int .i64 z.kind, .int .i64 z.num, .string z.text, .bool z.tr, .int .i64 z.fail] 23))
  generalize hW : ((w.alloc (.cells #[.int .i64 x.kind, .int .i64 x.num, .string x.text, .bool x.tr, .int .i64 x.fail] 23)).alloc (.cells #[.int .i64 y.kind, .int .i64 y.num, .string y.text, .bool y.tr, .int .i64 y.fail] 23)).alloc (.cells #[.int .i64 z.kind, .int .i64 z.num, .string z.text, .bool z.tr, .int .i64 z.fail] 23) = W0 at PX PY PZ HB ⊢
  clear hW
  obtain ⟨px_0, px_1, px_2, px_3, px_4⟩ := five_cells (unhide PX)
  go_wp2_with fail
  refine (unhide HVX _).mono ?_
  rintro e w1 ⟨rfl, b1⟩
  replace PX := hide (five_below (unhide PX) b1 (five_lt (unhide PX)))
  replace PY := hide (five_below (unhide PY) b1 (five_lt (unhide PY)))
  replace PZ := hide (five_below (unhide PZ) b1 (five_lt (unhide PZ)))
  replace HB := hide (below_nx (unhide HB) b1)
  clear b1 px_0 px_1 px_2 px_3 px_4
  have A := hide (five_old w1 28 (.int .i64 X.kind) (.int .i64 X.num) (.string X.text) (.bool X.tr) (.int .i64 X.fail) (.cells #[.int .i64 X.kind, .int .i64 X.num, .string X.text, .bool X.tr, .int .i64 X.fail] 29))
  have RA := hide (five_new2 w1 (.cells #[.int .i64 X.kind, .int .i64 X.num, .string X.text, .bool X.tr, .int .i64 X.fail] 28) 29 (.int .i64 X.kind) (.int .i64 X.num) (.string X.text) (.bool X.tr) (.int .i64 X.fail))
  have bb := below_al2 w1 (.cells #[.int .i64 X.kind, .int .i64 X.num, .string X.text, .bool X.tr, .int .i64 X.fail] 28) (.cells #[.int .i64 X.kind, .int .i64 X.num, .string X.text, .bool X.tr, .int .i64 X.fail] 29)
  replace PX := hide (five_below (unhide PX) bb (five_lt (unhide PX)))
  replace PY := hide (five_below (unhide PY) bb (five_lt (unhide PY)))
  replace PZ := hide (five_below (unhide PZ) bb (five_lt (unhide PZ)))
  replace HB := hide (below_nx (unhide HB) bb)
  clear bb
  go_upto_region 2 with fail
  generalize hW : (w1.alloc (.cells #[.int .i64 X.kind, .int .i64 X.num, .string X.text, .bool X.tr, .int .i64 X.fail] 28)).alloc (.cells #[.int .i64 X.kind, .int .i64 X.num, .string X.text, .bool X.tr, .int .i64 X.fail] 29) = W1 at A RA HB PX PY PZ ⊢
  clear hW
  clear PX
  clear RA
  obtain ⟨py_0, py_1, py_2, py_3, py_4⟩ := five_cells (unhide PY)
  go_wp2_with fail
  refine (unhide HVY _).mono ?_
  rintro e w2 ⟨rfl, b2⟩
  replace PY := hide (five_below (unhide PY) b2 (five_lt (unhide PY)))
  replace PZ := hide (five_below (unhide PZ) b2 (five_lt (unhide PZ)))
  replace A := hide (five_below (unhide A) b2 (five_lt (unhide A)))
  replace HB := hide (below_nx (unhide HB) b2)
  clear b2 py_0 py_1 py_2 py_3 py_4
  have C := hide (five_old w2 28 (.int .i64 Y.kind) (.int .i64 Y.num) (.string Y.text) (.bool Y.tr) (.int .i64 Y.fail) (.cells #[.int .i64 Y.kind, .int .i64 Y.num, .string Y.text, .bool Y.tr, .int .i64 Y.fail] 29))
  have RC := hide (five_new2 w2 (.cells #[.int .i64 Y.kind, .int .i64 Y.num, .string Y.text, .bool Y.tr, .int .i64 Y.fail] 28) 29 (.int .i64 Y.kind) (.int .i64 Y.num) (.string Y.text) (.bool Y.tr) (.int .i64 Y.fail))
  have bb := below_al2 w2 (.cells #[.int .i64 Y.kind, .int .i64 Y.num, .string Y.text, .bool Y.tr, .int .i64 Y.fail] 28) (.cells #[.int .i64 Y.kind, .int .i64 Y.num, .string Y.text, .bool Y.tr, .int .i64 Y.fail] 29)
  replace PY := hide (five_below (unhide PY) bb (five_lt (unhide PY)))
  replace PZ := hide (five_below (unhide PZ) bb (five_lt (unhide PZ)))
  replace A := hide (five_below (unhide A) bb (five_lt (unhide A)))
  replace HB := hide (below_nx (unhide HB) bb)
  clear bb
  go_upto_region 3 with fail
  generalize hW : (w2.alloc (.cells #[.int .i64 Y.kind, .int .i64 Y.num, .string Y.text, .bool Y.tr, .int .i64 Y.fail] 28)).alloc (.cells #[.int .i64 Y.kind, .int .i64 Y.num, .string Y.text, .bool Y.tr, .int .i64 Y.fail] 29) = W2 at C RC HB PY PZ A ⊢
  clear hW
  clear PY
  clear RC
  obtain ⟨pz_0, pz_1, pz_2, pz_3, pz_4⟩ := five_cells (unhide PZ)
  go_wp2_with fail
  refine (unhide HVZ _).mono ?_
  rintro e w3 ⟨rfl, b3⟩
  replace PZ := hide (five_below (unhide PZ) b3 (five_lt (unhide PZ)))
  replace A := hide (five_below (unhide A) b3 (five_lt (unhide A)))
  replace C := hide (five_below (unhide C) b3 (five_lt (unhide C)))
  replace HB := hide (below_nx (unhide HB) b3)
  clear b3 pz_0 pz_1 pz_2 pz_3 pz_4
  have D := hide (five_old w3 28 (.int .i64 Z.kind) (.int .i64 Z.num) (.string Z.text) (.bool Z.tr) (.int .i64 Z.fail) (.cells #[.int .i64 Z.kind, .int .i64 Z.num, .string Z.text, .bool Z.tr, .int .i64 Z.fail] 29))
  have RD := hide (five_new2 w3 (.cells #[.int .i64 Z.kind, .int .i64 Z.num, .string Z.text, .bool Z.tr, .int .i64 Z.fail] 28) 29 (.int .i64 Z.kind) (.int .i64 Z.num) (.string Z.text) (.bool Z.tr) (.int .i64 Z.fail))
  have bb := below_al2 w3 (.cells #[.int .i64 Z.kind, .int .i64 Z.num, .string Z.text, .bool Z.tr, .int .i64 Z.fail] 28) (.cells #[.int .i64 Z.kind, .int .i64 Z.num, .string Z.text, .bool Z.tr, .int .i64 Z.fail] 29)
  replace PZ := hide (five_below (unhide PZ) bb (five_lt (unhide PZ)))
  replace A := hide (five_below (unhide A) bb (five_lt (unhide A)))
  replace C := hide (five_below (unhide C) bb (five_lt (unhide C)))
  replace HB := hide (below_nx (unhide HB) bb)
  clear bb
  go_upto_region 4 with fail
  generalize hW : (w3.alloc (.cells #[.int .i64 Z.kind, .int .i64 Z.num, .string Z.text, .bool Z.tr, .int .i64 Z.fail] 28)).alloc (.cells #[.int .i64 Z.kind, .int .i64 Z.num, .string Z.text, .bool Z.tr, .int .i64 Z.fail] 29) = W3 at D RD HB PZ A C ⊢
  clear hW
  clear PZ
  clear RD
  obtain ⟨a_0, a_1, a_2, a_3, a_4⟩ := five_cells (unhide A)
  obtain ⟨c_0, c_1, c_2, c_3, c_4⟩ := five_cells (unhide C)
  go_wp2_with fail
  refine (unhide HP1 _ ((unhide HE).below (unhide HB))).mono ?_
  rintro e w4 ⟨rfl, b4⟩
  replace A := hide (five_below (unhide A) b4 (five_lt (unhide A)))
  replace C := hide (five_below (unhide C) b4 (five_lt (unhide C)))
  replace D := hide (five_below (unhide D) b4 (five_lt (unhide D)))
  replace HB := hide (below_nx (unhide HB) b4)
  clear b4 a_0 a_1 a_2 a_3 a_4 c_0 c_1 c_2 c_3 c_4
  obtain ⟨c_0, c_1, c_2, c_3, c_4⟩ := five_cells (unhide C)
  obtain ⟨a_0, a_1, a_2, a_3, a_4⟩ := five_cells (unhide A)
  go_wp2_with fail
  refine (unhide HP2 _ ((unhide HE).below (unhide HB))).mono ?_
  rintro e w5 ⟨rfl, b5⟩
  replace A := hide (five_below (unhide A) b5 (five_lt (unhide A)))
  replace C := hide (five_below (unhide C) b5 (five_lt (unhide C)))
  replace D := hide (five_below (unhide D) b5 (five_lt (unhide D)))
  replace HB := hide (below_nx (unhide HB) b5)
  clear b5 c_0 c_1 c_2 c_3 c_4 a_0 a_1 a_2 a_3 a_4
  cases h1 : (e == 0)
  · have h2 : (f == 0) = false := by rw [← (unhide T1).1]; exact h1
    have h1n : (e != 0) = true := by rw [bne, h1]; rfl
    clear T1 T3 T4 TC
    go_wp2_with fail
    refine (unhide HWK _ ((unhide HE).below (unhide HB))).mono ?_
    rintro e w6 ⟨rfl, b6⟩
    replace A := hide (five_below (unhide A) b6 (five_lt (unhide A)))
    replace C := hide (five_below (unhide C) b6 (five_lt (unhide C)))
    replace D := hide (five_below (unhide D) b6 (five_lt (unhide D)))
    replace HB := hide (below_nx (unhide HB) b6)
    clear b6
    obtain ⟨c_0, c_1, c_2, c_3, c_4⟩ := five_cells (unhide C)
    obtain ⟨d_0, d_1, d_2, d_3, d_4⟩ := five_cells (unhide D)
    go_wp2_with fail
    refine (unhide HP3 _ ((unhide HE).below (unhide HB))).mono ?_
    rintro e w7 ⟨rfl, b7⟩
    replace A := hide (five_below (unhide A) b7 (five_lt (unhide A)))
    replace C := hide (five_below (unhide C) b7 (five_lt (unhide C)))
    replace D := hide (five_below (unhide D) b7 (five_lt (unhide D)))
    replace HB := hide (below_nx (unhide HB) b7)
    clear b7 c_0 c_1 c_2 c_3 c_4 d_0 d_1 d_2 d_3 d_4
    obtain ⟨a_0, a_1, a_2, a_3, a_4⟩ := five_cells (unhide A)
    obtain ⟨d_0, d_1, d_2, d_3, d_4⟩ := five_cells (unhide D)
    go_wp2_with fail
    refine (unhide HP4 _ ((unhide HE).below (unhide HB))).mono ?_
    rintro e w8 ⟨rfl, b8⟩
    replace A := hide (five_below (unhide A) b8 (five_lt (unhide A)))
    replace C := hide (five_below (unhide C) b8 (five_lt (unhide C)))
    replace D := hide (five_below (unhide D) b8 (five_lt (unhide D)))
    replace HB := hide (below_nx (unhide HB) b8)
    clear b8 a_0 a_1 a_2 a_3 a_4 d_0 d_1 d_2 d_3 d_4
    obtain ⟨a_0, a_1, a_2, a_3, a_4⟩ := five_cells (unhide A)
    obtain ⟨c_0, c_1, c_2, c_3, c_4⟩ := five_cells (unhide C)
    obtain ⟨d_0, d_1, d_2, d_3, d_4⟩ := five_cells (unhide D)
    go_wp2
    go_ret
    exact ⟨rfl, unhide HB⟩
  · have h0 : e = 0 := by rw [beq_iff_eq] at h1; exact h1
    obtain ⟨hp, _, hf⟩ := (unhide T1).2.1 h0
    obtain ⟨hq0, hq1⟩ := (unhide T1).2.2
    subst hp hf h0
    clear h1 T1
    go_wp2_with fail
    refine (unhide HWK _ ((unhide HE).below (unhide HB))).mono ?_
    rintro e w6 ⟨rfl, b6⟩
    replace A := hide (five_below (unhide A) b6 (five_lt (unhide A)))
    replace C := hide (five_below (unhide C) b6 (five_lt (unhide C)))
    replace D := hide (five_below (unhide D) b6 (five_lt (unhide D)))
    replace HB := hide (below_nx (unhide HB) b6)
    clear b6
    obtain ⟨c_0, c_1, c_2, c_3, c_4⟩ := five_cells (unhide C)
    obtain ⟨d_0, d_1, d_2, d_3, d_4⟩ := five_cells (unhide D)
    go_wp2_with fail
    refine (unhide HP3 _ ((unhide HE).below (unhide HB))).mono ?_
    rintro e w7 ⟨rfl, b7⟩
    replace A := hide (five_below (unhide A) b7 (five_lt (unhide A)))
    replace C := hide (five_below (unhide C) b7 (five_lt (unhide C)))
    replace D := hide (five_below (unhide D) b7 (five_lt (unhide D)))
    replace HB := hide (below_nx (unhide HB) b7)
    clear b7 c_0 c_1 c_2 c_3 c_4 d_0 d_1 d_2 d_3 d_4
    obtain ⟨a_0, a_1, a_2, a_3, a_4⟩ := five_cells (unhide A)
    obtain ⟨d_0, d_1, d_2, d_3, d_4⟩ := five_cells (unhide D)
    go_wp2_with fail
    refine (unhide HP4 _ ((unhide HE).below (unhide HB))).mono ?_
    rintro e w8 ⟨rfl, b8⟩
    replace A := hide (five_below (unhide A) b8 (five_lt (unhide A)))
    replace C := hide (five_below (unhide C) b8 (five_lt (unhide C)))
    replace D := hide (five_below (unhide D) b8 (five_lt (unhide D)))
    replace HB := hide (below_nx (unhide HB) b8)
    clear b8 a_0 a_1 a_2 a_3 a_4 d_0 d_1 d_2 d_3 d_4
    obtain ⟨a_0, a_1, a_2, a_3, a_4⟩ := five_cells (unhide A)
    obtain ⟨c_0, c_1, c_2, c_3, c_4⟩ := five_cells (unhide C)
    obtain ⟨d_0, d_1, d_2, d_3, d_4⟩ := five_cells (unhide D)
    cases h3 : (g == 0)
    · have h3n : (g != 0) = true := by rw [bne, h3]; rfl
      go_wp2
      go_ret
      exact ⟨rfl, unhide HB⟩
    · rw [beq_iff_eq] at h3
      subst h3
      cases h4 : (h == 0)
      · have h4n : (h != 0) = true := by rw [bne, h4]; rfl
        go_wp2
        go_ret
        exact ⟨rfl, unhide HB⟩
      · rw [beq_iff_eq] at h4
        subst h4
        cases kx : (X.kind == 0)
        · cases ky : (Y.kind == 0)
          · cases kz : (Z.kind == 0)
            · have hq3 := three_of q ⟨hq0, hq1⟩
              have hr3 := three_of r (unhide T3)
              have hs3 := three_of s (unhide T4)
              have hc := unhide TC (beq_kind _ kx) (beq_kind _ ky) (beq_kind _ kz) (-q) r s rfl rfl rfl
              clear hq0 hq1 TC T3 T4
              rcases hq3 with rfl | rfl | rfl <;> rcases hr3 with rfl | rfl | rfl <;> rcases hs3 with rfl | rfl | rfl <;> first | exact absurd hc (by decide) | (clear hc; go_wp2; go_ret; exact ⟨rfl, unhide HB⟩)
            · go_wp2
              go_ret
              exact ⟨rfl, unhide HB⟩
          · go_wp2
            go_ret
            exact ⟨rfl, unhide HB⟩
        · go_wp2
          go_ret
          exact ⟨rfl, unhide HB⟩
end Go.Proofs.YteaodfeaidjcnaaDoor
