/- The walk of AddrMeets. -/
import Derived.Test.YtlgmpoofcdkaeaaDoorAwM0
import Derived.Deep.DrawnRows
namespace Go.Proofs.YtlgmpoofcdkaeaaDoor
open Go.RowKit

attribute [local go_sem ↓] Go.wp_at_zero Go.wp_at_succ
theorem five_at {w : World} {B : Nat} {t : TypeId} {v0 v1 v2 v3 v4 v5 v6 v7 v8 v9 : Int} (h : CellsAt w B t #[.int .i64 v0, .int .i64 v1, .int .i64 v2, .int .i64 v3, .int .i64 v4, .int .i64 v5, .int .i64 v6, .int .i64 v7, .int .i64 v8, .int .i64 v9]) (k : Nat) (hk : k < 5) : ∃ u v : Int, w.cell? ⟨B, k * 2, none⟩ = some (.int .i64 u) ∧ w.cell? ⟨B, k * 2 + 1, none⟩ = some (.int .i64 v) := by
  match k, hk with
  | 0, _ => exact ⟨_, _, cells_c h 0 _ rfl, cells_c h 1 _ rfl⟩
  | 1, _ => exact ⟨_, _, cells_c h 2 _ rfl, cells_c h 3 _ rfl⟩
  | 2, _ => exact ⟨_, _, cells_c h 4 _ rfl, cells_c h 5 _ rfl⟩
  | 3, _ => exact ⟨_, _, cells_c h 6 _ rfl, cells_c h 7 _ rfl⟩
  | 4, _ => exact ⟨_, _, cells_c h 8 _ rfl, cells_c h 9 _ rfl⟩

set_option maxRecDepth 100000 in
set_option maxHeartbeats 8000000 in
theorem meets_law (x y : Fl) (c0 c1 : Int) (w : World) (hx : x.book.size ≤ maxLen ∧ x.sheet.size ≤ maxLen) (hy : y.book.size ≤ maxLen ∧ y.sheet.size ≤ maxLen) (he : Env4 w) :
    Calls Tryd.prog 7 #[.agg x.lcells, .agg y.lcells, .agg #[.int .i64 c0, .int .i64 c1]] w fun e w' => e = .returned (.bool true) ∧ Below w.heap.size w w' := by
  have HE := hide he
  clear he
  have HFX := hide (fun w => fulls_law x w hx.1 hx.2)
  have HFY := hide (fun w => fulls_law y w hy.1 hy.2)
  clear hx hy
  obtain ⟨X, eX⟩ : ∃ X, cutF x = X := ⟨_, rfl⟩
  rw [eX] at HFX
  clear eX
  obtain ⟨Y, eY⟩ : ∃ Y, cutF y = Y := ⟨_, rfl⟩
  rw [eY] at HFY
  clear eY
  have HWK := hide wakes4_val
  have HX := hide (fun w => between_val X.a.col X.a.row X.b.col X.b.row w)
  have HY := hide (fun w => between_val Y.a.col Y.a.row Y.b.col Y.b.row w)
  have GX1 := hide (between_has1 X.a.col X.a.row X.b.col X.b.row)
  have GX2 := hide (between_has2 X.a.col X.a.row X.b.col X.b.row)
  generalize min X.a.col X.b.col = a0, min X.a.row X.b.row = a1, max X.a.col X.b.col = a2, max X.a.row X.b.row = a3 at HX GX1 GX2
  generalize min Y.a.col Y.b.col = b0, min Y.a.row Y.b.row = b1, max Y.a.col Y.b.col = b2, max Y.a.row Y.b.row = b3 at HY
  obtain ⟨m0, m1, m2, m3, ok, hm1, hm2, hm3, hm4, hm5, hm6⟩ := meet_pack a0 a1 a2 a3 b0 b1 b2 b3
  have HM1 := hide hm1
  have HM2 := hide hm2
  have OG := hide hm3
  have OS := hide hm4
  have OH := hide hm5
  have ON := hide hm6
  clear hm1 hm2 hm3 hm4 hm5 hm6
  have HGA := hide (fun w => areaGood_val a0 a1 a2 a3 w)
  have HGB := hide (fun w => areaGood_val b0 b1 b2 b3 w)
  have HHA := hide (fun x y w => has_val a0 a1 a2 a3 x y w)
  have HHB := hide (fun x y w => has_val b0 b1 b2 b3 x y w)
  have HHM := hide (fun x y w => has_val m0 m1 m2 m3 x y w)
  have HGM := hide (fun w => areaGood_val m0 m1 m2 m3 w)
  have HSM := hide (fun w => size_val m0 m1 m2 m3 w)
  have HSA := hide (fun w => size_val a0 a1 a2 a3 w)
  unfold Fl.cells at HFX HFY
  unfold Fl.lcells at HFX HFY ⊢
  go_enter Tryd.func7, Tryd.ntmps7
  go_upto_region 1 with fail
  have P := hide (cells_al (cells_al (cells_new w 25 #[.string x.book, .string x.sheet, .int .i64 x.a.col, .int .i64 x.a.row, .int .i64 x.b.col, .int .i64 x.b.row, .bool x.a.fc, .bool x.a.fr, .bool x.b.fc, .bool x.b.fr, .bool x.wide]) (.cells #[.string y.book, .string y.sheet, .int .i64 y.a.col, .int .i64 y.a.row, .int .i64 y.b.col, .int .i64 y.b.row, .bool y.a.fc, .bool y.a.fr, .bool y.b.fc, .bool y.b.fr, .bool y.wide] 25)) (.cells #[.int .i64 c0, .int .i64 c1] 22))
  have Q := hide (cells_al (cells_new2 w (.cells #[.string x.book, .string x.sheet, .int .i64 x.a.col, .int .i64 x.a.row, .int .i64 x.b.col, .int .i64 x.b.row, .bool x.a.fc, .bool x.a.fr, .bool x.b.fc, .bool x.b.fr, .bool x.wide] 25) 25 #[.string y.book, .string y.sheet, .int .i64 y.a.col, .int .i64 y.a.row, .int .i64 y.b.col, .int .i64 y.b.row, .bool y.a.fc, .bool y.a.fr, .bool y.b.fc, .bool y.b.fr, .bool y.wide]) (.cells #[.int .i64 c0, .int .i64 c1] 22))
  have C := hide (cells_new3 w (.cells #[.string x.book, .string x.sheet, .int .i64 x.a.col, .int .i64 x.a.row, .int .i64 x.b.col, .int .i64 x.b.row, .bool x.a.fc, .bool x.a.fr, .bool x.b.fc, .bool x.b.fr, .bool x.wide] 25) (.cells #[.string y.book, .string y.sheet, .int .i64 y.a.col, .int .i64 y.a.row, .int .i64 y.b.col, .int .i64 y.b.row, .bool y.a.fc, .bool y.a.fr, .bool y.b.fc, .bool y.b.fr, .bool y.wide] 25) 22 #[.int .i64 c0, .int .i64 c1])
  have HB : Hid (Below w.heap.size w (((w.alloc (.cells #[.string x.book, .string x.sheet, .int .i64 x.a.col, .int .i64 x.a.row, .int .i64 x.b.col, .int .i64 x.b.row, .bool x.a.fc, .bool x.a.fr, .bool x.b.fc, .bool x.b.fr, .bool x.wide] 25)).alloc (.cells #[.string y.book, .string y.sheet, .int .i64 y.a.col, .int .i64 y.a.row, .int .i64 y.b.col, .int .i64 y.b.row, .bool y.a.fc, .bool y.a.fr, .bool y.b.fc, .bool y.b.fr, .bool y.wide] 25)).alloc (.cells #[.int .i64 c0, .int .i64 c1] 22))) := hide (below_al3 _ _ _ _)
  generalize hW : ((w.alloc (.cells #[.string x.book, .string x.sheet, .int .i64 x.a.col, .int .i64 x.a.row, .int .i64 x.b.col, .int .i64 x.b.row, .bool x.a.fc, .bool x.a.fr, .bool x.b.fc, .bool x.b.fr, .bool x.wide] 25)).alloc (.cells #[.string y.book, .string y.sheet, .int .i64 y.a.col, .int .i64 y.a.row, .int .i64 y.b.col, .int .i64 y.b.row, .bool y.a.fc, .bool y.a.fr, .bool y.b.fc, .bool y.b.fr, .bool y.wide] 25)).alloc (.cells #[.int .i64 c0, .int .i64 c1] 22) = W0 at P Q C HB ⊢
  clear hW
  obtain ⟨p_0, p_1, p_2, p_3, p_4, p_5, p_6, p_7, p_8, p_9, p_10⟩ := cells11 (unhide P)
  go_wp2_with fail
  refine (unhide HFX _).mono ?_
  rintro e wk1 ⟨rfl, bk1⟩
  replace P := hide (cells_nx (unhide P) bk1)
  replace Q := hide (cells_nx (unhide Q) bk1)
  replace C := hide (cells_nx (unhide C) bk1)
  replace HB := hide (below_nx (unhide HB) bk1)
  clear bk1
  clear p_0 p_1 p_2 p_3 p_4 p_5 p_6 p_7 p_8 p_9 p_10
  have hz_a := (unhide HB).size
  go_upto_region 2 with fail
  have A := hide (cells_al (cells_new wk1 31 #[.string X.book, .string X.sheet, .int .i64 X.a.col, .int .i64 X.a.row, .bool X.a.fc, .bool X.a.fr, .int .i64 X.b.col, .int .i64 X.b.row, .bool X.b.fc, .bool X.b.fr, .bool X.wide]) (.cells #[.string X.book, .string X.sheet, .int .i64 X.a.col, .int .i64 X.a.row, .bool X.a.fc, .bool X.a.fr, .int .i64 X.b.col, .int .i64 X.b.row, .bool X.b.fc, .bool X.b.fr, .bool X.wide] 35))
  have R := hide (cells_new2 wk1 (.cells #[.string X.book, .string X.sheet, .int .i64 X.a.col, .int .i64 X.a.row, .bool X.a.fc, .bool X.a.fr, .int .i64 X.b.col, .int .i64 X.b.row, .bool X.b.fc, .bool X.b.fr, .bool X.wide] 31) 35 #[.string X.book, .string X.sheet, .int .i64 X.a.col, .int .i64 X.a.row, .bool X.a.fc, .bool X.a.fr, .int .i64 X.b.col, .int .i64 X.b.row, .bool X.b.fc, .bool X.b.fr, .bool X.wide])
  replace P := hide (cells_al (cells_al (unhide P) (.cells #[.string X.book, .string X.sheet, .int .i64 X.a.col, .int .i64 X.a.row, .bool X.a.fc, .bool X.a.fr, .int .i64 X.b.col, .int .i64 X.b.row, .bool X.b.fc, .bool X.b.fr, .bool X.wide] 31)) (.cells #[.string X.book, .string X.sheet, .int .i64 X.a.col, .int .i64 X.a.row, .bool X.a.fc, .bool X.a.fr, .int .i64 X.b.col, .int .i64 X.b.row, .bool X.b.fc, .bool X.b.fr, .bool X.wide] 35))
  replace Q := hide (cells_al (cells_al (unhide Q) (.cells #[.string X.book, .string X.sheet, .int .i64 X.a.col, .int .i64 X.a.row, .bool X.a.fc, .bool X.a.fr, .int .i64 X.b.col, .int .i64 X.b.row, .bool X.b.fc, .bool X.b.fr, .bool X.wide] 31)) (.cells #[.string X.book, .string X.sheet, .int .i64 X.a.col, .int .i64 X.a.row, .bool X.a.fc, .bool X.a.fr, .int .i64 X.b.col, .int .i64 X.b.row, .bool X.b.fc, .bool X.b.fr, .bool X.wide] 35))
  replace C := hide (cells_al (cells_al (unhide C) (.cells #[.string X.book, .string X.sheet, .int .i64 X.a.col, .int .i64 X.a.row, .bool X.a.fc, .bool X.a.fr, .int .i64 X.b.col, .int .i64 X.b.row, .bool X.b.fc, .bool X.b.fr, .bool X.wide] 31)) (.cells #[.string X.book, .string X.sheet, .int .i64 X.a.col, .int .i64 X.a.row, .bool X.a.fc, .bool X.a.fr, .int .i64 X.b.col, .int .i64 X.b.row, .bool X.b.fc, .bool X.b.fr, .bool X.wide] 35))
  replace HB := hide (((unhide HB).alloc (unhide HB).size (.cells #[.string X.book, .string X.sheet, .int .i64 X.a.col, .int .i64 X.a.row, .bool X.a.fc, .bool X.a.fr, .int .i64 X.b.col, .int .i64 X.b.row, .bool X.b.fc, .bool X.b.fr, .bool X.wide] 31)).alloc (by have := (unhide HB).size; simp; omega) (.cells #[.string X.book, .string X.sheet, .int .i64 X.a.col, .int .i64 X.a.row, .bool X.a.fc, .bool X.a.fr, .int .i64 X.b.col, .int .i64 X.b.row, .bool X.b.fc, .bool X.b.fr, .bool X.wide] 35))
  generalize hW : (wk1.alloc (.cells #[.string X.book, .string X.sheet, .int .i64 X.a.col, .int .i64 X.a.row, .bool X.a.fc, .bool X.a.fr, .int .i64 X.b.col, .int .i64 X.b.row, .bool X.b.fc, .bool X.b.fr, .bool X.wide] 31)).alloc (.cells #[.string X.book, .string X.sheet, .int .i64 X.a.col, .int .i64 X.a.row, .bool X.a.fc, .bool X.a.fr, .int .i64 X.b.col, .int .i64 X.b.row, .bool X.b.fc, .bool X.b.fr, .bool X.wide] 35) = WF1 at A R P Q C HB ⊢
  clear hW
  clear R P
  obtain ⟨q_0, q_1, q_2, q_3, q_4, q_5, q_6, q_7, q_8, q_9, q_10⟩ := cells11 (unhide Q)
  go_wp2_with fail
  refine (unhide HFY _).mono ?_
  rintro e wk2 ⟨rfl, bk2⟩
  replace Q := hide (cells_nx (unhide Q) bk2)
  replace C := hide (cells_nx (unhide C) bk2)
  replace A := hide (cells_nx (unhide A) bk2)
  replace HB := hide (below_nx (unhide HB) bk2)
  clear bk2
  clear q_0 q_1 q_2 q_3 q_4 q_5 q_6 q_7 q_8 q_9 q_10
  have hz_b := (unhide HB).size
  go_upto_region 3 with fail
  have B := hide (cells_al (cells_new wk2 31 #[.string Y.book, .string Y.sheet, .int .i64 Y.a.col, .int .i64 Y.a.row, .bool Y.a.fc, .bool Y.a.fr, .int .i64 Y.b.col, .int .i64 Y.b.row, .bool Y.b.fc, .bool Y.b.fr, .bool Y.wide]) (.cells #[.string Y.book, .string Y.sheet, .int .i64 Y.a.col, .int .i64 Y.a.row, .bool Y.a.fc, .bool Y.a.fr, .int .i64 Y.b.col, .int .i64 Y.b.row, .bool Y.b.fc, .bool Y.b.fr, .bool Y.wide] 35))
  have S := hide (cells_new2 wk2 (.cells #[.string Y.book, .string Y.sheet, .int .i64 Y.a.col, .int .i64 Y.a.row, .bool Y.a.fc, .bool Y.a.fr, .int .i64 Y.b.col, .int .i64 Y.b.row, .bool Y.b.fc, .bool Y.b.fr, .bool Y.wide] 31) 35 #[.string Y.book, .string Y.sheet, .int .i64 Y.a.col, .int .i64 Y.a.row, .bool Y.a.fc, .bool Y.a.fr, .int .i64 Y.b.col, .int .i64 Y.b.row, .bool Y.b.fc, .bool Y.b.fr, .bool Y.wide])
  replace Q := hide (cells_al (cells_al (unhide Q) (.cells #[.string Y.book, .string Y.sheet, .int .i64 Y.a.col, .int .i64 Y.a.row, .bool Y.a.fc, .bool Y.a.fr, .int .i64 Y.b.col, .int .i64 Y.b.row, .bool Y.b.fc, .bool Y.b.fr, .bool Y.wide] 31)) (.cells #[.string Y.book, .string Y.sheet, .int .i64 Y.a.col, .int .i64 Y.a.row, .bool Y.a.fc, .bool Y.a.fr, .int .i64 Y.b.col, .int .i64 Y.b.row, .bool Y.b.fc, .bool Y.b.fr, .bool Y.wide] 35))
  replace C := hide (cells_al (cells_al (unhide C) (.cells #[.string Y.book, .string Y.sheet, .int .i64 Y.a.col, .int .i64 Y.a.row, .bool Y.a.fc, .bool Y.a.fr, .int .i64 Y.b.col, .int .i64 Y.b.row, .bool Y.b.fc, .bool Y.b.fr, .bool Y.wide] 31)) (.cells #[.string Y.book, .string Y.sheet, .int .i64 Y.a.col, .int .i64 Y.a.row, .bool Y.a.fc, .bool Y.a.fr, .int .i64 Y.b.col, .int .i64 Y.b.row, .bool Y.b.fc, .bool Y.b.fr, .bool Y.wide] 35))
  replace A := hide (cells_al (cells_al (unhide A) (.cells #[.string Y.book, .string Y.sheet, .int .i64 Y.a.col, .int .i64 Y.a.row, .bool Y.a.fc, .bool Y.a.fr, .int .i64 Y.b.col, .int .i64 Y.b.row, .bool Y.b.fc, .bool Y.b.fr, .bool Y.wide] 31)) (.cells #[.string Y.book, .string Y.sheet, .int .i64 Y.a.col, .int .i64 Y.a.row, .bool Y.a.fc, .bool Y.a.fr, .int .i64 Y.b.col, .int .i64 Y.b.row, .bool Y.b.fc, .bool Y.b.fr, .bool Y.wide] 35))
  replace HB := hide (((unhide HB).alloc (unhide HB).size (.cells #[.string Y.book, .string Y.sheet, .int .i64 Y.a.col, .int .i64 Y.a.row, .bool Y.a.fc, .bool Y.a.fr, .int .i64 Y.b.col, .int .i64 Y.b.row, .bool Y.b.fc, .bool Y.b.fr, .bool Y.wide] 31)).alloc (by have := (unhide HB).size; simp; omega) (.cells #[.string Y.book, .string Y.sheet, .int .i64 Y.a.col, .int .i64 Y.a.row, .bool Y.a.fc, .bool Y.a.fr, .int .i64 Y.b.col, .int .i64 Y.b.row, .bool Y.b.fc, .bool Y.b.fr, .bool Y.wide] 35))
  generalize hW : (wk2.alloc (.cells #[.string Y.book, .string Y.sheet, .int .i64 Y.a.col, .int .i64 Y.a.row, .bool Y.a.fc, .bool Y.a.fr, .int .i64 Y.b.col, .int .i64 Y.b.row, .bool Y.b.fc, .bool Y.b.fr, .bool Y.wide] 31)).alloc (.cells #[.string Y.book, .string Y.sheet, .int .i64 Y.a.col, .int .i64 Y.a.row, .bool Y.a.fc, .bool Y.a.fr, .int .i64 Y.b.col, .int .i64 Y.b.row, .bool Y.b.fc, .bool Y.b.fr, .bool Y.wide] 35) = WF2 at B S Q C A HB ⊢
  clear hW
  clear S Q
  obtain ⟨K, kp, k0, hs, hr⟩ : ∃ K : World → Prop, Keeps K WF2.heap.size ∧ K WF2 ∧ (∀ w', K w' → w'.cell? ⟨wk1.heap.size, 2, none⟩ = some (.int .i64 X.a.col) ∧ w'.cell? ⟨wk1.heap.size, 3, none⟩ = some (.int .i64 X.a.row) ∧ w'.cell? ⟨wk1.heap.size, 6, none⟩ = some (.int .i64 X.b.col) ∧ w'.cell? ⟨wk1.heap.size, 7, none⟩ = some (.int .i64 X.b.row) ∧ w'.cell? ⟨wk2.heap.size, 2, none⟩ = some (.int .i64 Y.a.col) ∧ w'.cell? ⟨wk2.heap.size, 3, none⟩ = some (.int .i64 Y.a.row) ∧ w'.cell? ⟨wk2.heap.size, 6, none⟩ = some (.int .i64 Y.b.col) ∧ w'.cell? ⟨wk2.heap.size, 7, none⟩ = some (.int .i64 Y.b.row)) ∧ (∀ w', K w' → CellsAt w' wk1.heap.size 31 #[.string X.book, .string X.sheet, .int .i64 X.a.col, .int .i64 X.a.row, .bool X.a.fc, .bool X.a.fr, .int .i64 X.b.col, .int .i64 X.b.row, .bool X.b.fc, .bool X.b.fr, .bool X.wide] ∧ CellsAt w' wk2.heap.size 31 #[.string Y.book, .string Y.sheet, .int .i64 Y.a.col, .int .i64 Y.a.row, .bool Y.a.fc, .bool Y.a.fr, .int .i64 Y.b.col, .int .i64 Y.b.row, .bool Y.b.fc, .bool Y.b.fr, .bool Y.wide] ∧ CellsAt w' (w.heap.size + 2) 22 #[.int .i64 c0, .int .i64 c1] ∧ Below w.heap.size w w') := by
    refine ⟨fun w' => CellsAt w' wk1.heap.size 31 #[.string X.book, .string X.sheet, .int .i64 X.a.col, .int .i64 X.a.row, .bool X.a.fc, .bool X.a.fr, .int .i64 X.b.col, .int .i64 X.b.row, .bool X.b.fc, .bool X.b.fr, .bool X.wide] ∧ CellsAt w' wk2.heap.size 31 #[.string Y.book, .string Y.sheet, .int .i64 Y.a.col, .int .i64 Y.a.row, .bool Y.a.fc, .bool Y.a.fr, .int .i64 Y.b.col, .int .i64 Y.b.row, .bool Y.b.fc, .bool Y.b.fr, .bool Y.wide] ∧ CellsAt w' (w.heap.size + 2) 22 #[.int .i64 c0, .int .i64 c1] ∧ Below w.heap.size w w', keeps_and (keeps_cells _ _ _ _ (cells_lt (unhide A))) (keeps_and (keeps_cells _ _ _ _ (cells_lt (unhide B))) (keeps_and (keeps_cells _ _ _ _ (cells_lt (unhide C))) (keeps_below _ _ (unhide HB).size))), ⟨unhide A, unhide B, unhide C, unhide HB⟩, ?_, fun w' h => h⟩
    rintro w' ⟨h1, h2, _, _⟩
    exact ⟨cells_c h1 2 _ rfl, cells_c h1 3 _ rfl, cells_c h1 6 _ rfl, cells_c h1 7 _ rfl, cells_c h2 2 _ rfl, cells_c h2 3 _ rfl, cells_c h2 6 _ rfl, cells_c h2 7 _ rfl⟩
  clear A B C HB hz_a hz_b
  have HS := hide hs
  have HR := hide hr
  have KP := hide kp
  have K0 := hide k0
  clear hs hr kp k0
  go_cut [11, 12] from 29 to 42 (fun v11 v12 wx => ∃ F T : Nat, v11 = .pointer (some ⟨F, 0, none⟩) ∧ v12 = .pointer (some ⟨T, 0, none⟩) ∧ Hid (CellsAt wx F 48 #[.int .i64 a0, .int .i64 a1, .int .i64 a2, .int .i64 a3]) ∧ Hid (CellsAt wx T 48 #[.int .i64 b0, .int .i64 b1, .int .i64 b2, .int .i64 b3]) ∧ Hid (K wx))
  case first =>
    obtain ⟨e0, e1, e2, e3, e4, e5, e6, e7⟩ := unhide HS _ ((unhide KP).drew (unhide K0))
    go_region_held3 (fun w' => w'.cell? ⟨wk1.heap.size, 2, none⟩ = some (.int .i64 X.a.col) ∧ w'.cell? ⟨wk1.heap.size, 3, none⟩ = some (.int .i64 X.a.row) ∧ w'.cell? ⟨wk1.heap.size, 6, none⟩ = some (.int .i64 X.b.col) ∧ w'.cell? ⟨wk1.heap.size, 7, none⟩ = some (.int .i64 X.b.row) ∧ w'.cell? ⟨wk2.heap.size, 2, none⟩ = some (.int .i64 Y.a.col) ∧ w'.cell? ⟨wk2.heap.size, 3, none⟩ = some (.int .i64 Y.a.row) ∧ w'.cell? ⟨wk2.heap.size, 6, none⟩ = some (.int .i64 Y.b.col) ∧ w'.cell? ⟨wk2.heap.size, 7, none⟩ = some (.int .i64 Y.b.row)) (first | exact unhide HS _ (by ((repeat (first | with_reducible refine (unhide KP).drew ?_ | with_reducible refine (unhide KP).al ?_ _ | with_reducible refine (unhide KP).set _ ?_ (by omega))); first | with_reducible exact unhide K0 | with_reducible exact unhide K1 | with_reducible exact unhide K2)))
      (first
        | (go_at_call_of 32 (Value.int IntKind.i64 X.a.col); refine (unhide HX _).mono ?_; rintro e y1 ⟨rfl, z1⟩; (first | ((with_reducible have K1 := hide ((unhide KP).nx ((unhide KP).drew (unhide K0)) z1))) | ((with_reducible have K1 := hide ((unhide KP).nx ((unhide KP).drew ((unhide KP).al (unhide K0) _)) z1)); have N1 := hide (cells_nx (cells_drew (cells_new WF2 48 #[.int .i64 0, .int .i64 0, .int .i64 0, .int .i64 0])) z1)) | ((with_reducible have K1 := hide ((unhide KP).nx ((unhide KP).drew ((unhide KP).al ((unhide KP).al (unhide K0) _) _)) z1)); have N1 := hide (cells_nx (cells_drew (cells_al (cells_new WF2 48 #[.int .i64 0, .int .i64 0, .int .i64 0, .int .i64 0]) (.cells #[.int .i64 0, .int .i64 0, .int .i64 0, .int .i64 0] 48))) z1); have N2 := hide (cells_nx (cells_drew (cells_new2 WF2 (.cells #[.int .i64 0, .int .i64 0, .int .i64 0, .int .i64 0] 48) 48 #[.int .i64 0, .int .i64 0, .int .i64 0, .int .i64 0])) z1))); have s1 : WF2.heap.size ≤ y1.heap.size := (by have := z1.size; (try simp at this); omega); (try have s11 := cells_lt (unhide N1)); clear z1 e0 e1 e2 e3 e4 e5 e6 e7; obtain ⟨e0, e1, e2, e3, e4, e5, e6, e7⟩ := unhide HS _ (unhide K1))
        | (go_at_call_of 32 (Value.int IntKind.i64 Y.a.col); refine (unhide HY _).mono ?_; rintro e y2 ⟨rfl, z2⟩; (first | ((with_reducible have K2 := hide ((unhide KP).nx (unhide K1) z2)); (with_reducible have M1 := hide (cells_nx (unhide N1) z2)); (with_reducible have M2 := hide (cells_nx (unhide N2) z2)); obtain ⟨m1_0, m1_1, m1_2, m1_3⟩ := cells4 (unhide M1); have fm1_0 := cells_f (unhide M1) 0; have fm1_1 := cells_f (unhide M1) 1; have fm1_2 := cells_f (unhide M1) 2; have fm1_3 := cells_f (unhide M1) 3; have lM1 := Nat.ne_of_lt (cells_lt (unhide M1)); have gM1 := Ne.symm lM1; obtain ⟨m2_0, m2_1, m2_2, m2_3⟩ := cells4 (unhide M2); have fm2_0 := cells_f (unhide M2) 0; have fm2_1 := cells_f (unhide M2) 1; have fm2_2 := cells_f (unhide M2) 2; have fm2_3 := cells_f (unhide M2) 3; have lM2 := Nat.ne_of_lt (cells_lt (unhide M2)); have gM2 := Ne.symm lM2; have n12 : WF2.heap.size ≠ WF2.heap.size + 1 := (by omega); have n21 := Ne.symm n12; obtain ⟨mc_0, mc_1, mc_2, mc_3⟩ := cells4 (cells_far4 (unhide M1) n12 (.int .i64 a0) (.int .i64 a1) (.int .i64 a2) (.int .i64 a3)); have fmc_0 := cells_f (cells_far4 (unhide M1) n12 (.int .i64 a0) (.int .i64 a1) (.int .i64 a2) (.int .i64 a3)) 0; have fmc_1 := cells_f (cells_far4 (unhide M1) n12 (.int .i64 a0) (.int .i64 a1) (.int .i64 a2) (.int .i64 a3)) 1; have fmc_2 := cells_f (cells_far4 (unhide M1) n12 (.int .i64 a0) (.int .i64 a1) (.int .i64 a2) (.int .i64 a3)) 2; have fmc_3 := cells_f (cells_far4 (unhide M1) n12 (.int .i64 a0) (.int .i64 a1) (.int .i64 a2) (.int .i64 a3)) 3; obtain ⟨md_0, md_1, md_2, md_3⟩ := cells4 (cells_far4 (unhide M2) n21 (.int .i64 a0) (.int .i64 a1) (.int .i64 a2) (.int .i64 a3)); have fmd_0 := cells_f (cells_far4 (unhide M2) n21 (.int .i64 a0) (.int .i64 a1) (.int .i64 a2) (.int .i64 a3)) 0; have fmd_1 := cells_f (cells_far4 (unhide M2) n21 (.int .i64 a0) (.int .i64 a1) (.int .i64 a2) (.int .i64 a3)) 1; have fmd_2 := cells_f (cells_far4 (unhide M2) n21 (.int .i64 a0) (.int .i64 a1) (.int .i64 a2) (.int .i64 a3)) 2; have fmd_3 := cells_f (cells_far4 (unhide M2) n21 (.int .i64 a0) (.int .i64 a1) (.int .i64 a2) (.int .i64 a3)) 3) | ((with_reducible have K2 := hide ((unhide KP).nx ((unhide KP).al (unhide K1) _) z2)); (with_reducible have M1 := hide (cells_nx (cells_al (unhide N1) (.cells #[.int .i64 0, .int .i64 0, .int .i64 0, .int .i64 0] 48)) z2)); have M2 := hide (cells_nx (cells_new y1 48 #[.int .i64 0, .int .i64 0, .int .i64 0, .int .i64 0]) z2); obtain ⟨m1_0, m1_1, m1_2, m1_3⟩ := cells4 (unhide M1); have fm1_0 := cells_f (unhide M1) 0; have fm1_1 := cells_f (unhide M1) 1; have fm1_2 := cells_f (unhide M1) 2; have fm1_3 := cells_f (unhide M1) 3; have lM1 := Nat.ne_of_lt (cells_lt (unhide M1)); have gM1 := Ne.symm lM1; obtain ⟨m2_0, m2_1, m2_2, m2_3⟩ := cells4 (unhide M2); have fm2_0 := cells_f (unhide M2) 0; have fm2_1 := cells_f (unhide M2) 1; have fm2_2 := cells_f (unhide M2) 2; have fm2_3 := cells_f (unhide M2) 3; have lM2 := Nat.ne_of_lt (cells_lt (unhide M2)); have gM2 := Ne.symm lM2; have n12 : WF2.heap.size ≠ y1.heap.size := (by omega); have n21 := Ne.symm n12; obtain ⟨mc_0, mc_1, mc_2, mc_3⟩ := cells4 (cells_far4 (unhide M1) n12 (.int .i64 a0) (.int .i64 a1) (.int .i64 a2) (.int .i64 a3)); have fmc_0 := cells_f (cells_far4 (unhide M1) n12 (.int .i64 a0) (.int .i64 a1) (.int .i64 a2) (.int .i64 a3)) 0; have fmc_1 := cells_f (cells_far4 (unhide M1) n12 (.int .i64 a0) (.int .i64 a1) (.int .i64 a2) (.int .i64 a3)) 1; have fmc_2 := cells_f (cells_far4 (unhide M1) n12 (.int .i64 a0) (.int .i64 a1) (.int .i64 a2) (.int .i64 a3)) 2; have fmc_3 := cells_f (cells_far4 (unhide M1) n12 (.int .i64 a0) (.int .i64 a1) (.int .i64 a2) (.int .i64 a3)) 3; obtain ⟨md_0, md_1, md_2, md_3⟩ := cells4 (cells_far4 (unhide M2) n21 (.int .i64 a0) (.int .i64 a1) (.int .i64 a2) (.int .i64 a3)); have fmd_0 := cells_f (cells_far4 (unhide M2) n21 (.int .i64 a0) (.int .i64 a1) (.int .i64 a2) (.int .i64 a3)) 0; have fmd_1 := cells_f (cells_far4 (unhide M2) n21 (.int .i64 a0) (.int .i64 a1) (.int .i64 a2) (.int .i64 a3)) 1; have fmd_2 := cells_f (cells_far4 (unhide M2) n21 (.int .i64 a0) (.int .i64 a1) (.int .i64 a2) (.int .i64 a3)) 2; have fmd_3 := cells_f (cells_far4 (unhide M2) n21 (.int .i64 a0) (.int .i64 a1) (.int .i64 a2) (.int .i64 a3)) 3) | ((with_reducible have K2 := hide ((unhide KP).nx (unhide K1) z2)); (with_reducible have M1 := hide (cells_nx (unhide N1) z2)); obtain ⟨m1_0, m1_1, m1_2, m1_3⟩ := cells4 (unhide M1); have fm1_0 := cells_f (unhide M1) 0; have fm1_1 := cells_f (unhide M1) 1; have fm1_2 := cells_f (unhide M1) 2; have fm1_3 := cells_f (unhide M1) 3; have lM1 := Nat.ne_of_lt (cells_lt (unhide M1)); have gM1 := Ne.symm lM1; obtain ⟨ma_0, ma_1, ma_2, ma_3⟩ := cells4 (cells_al (unhide M1) (.cells #[.int .i64 0, .int .i64 0, .int .i64 0, .int .i64 0] 48)); have fma_0 := cells_f (cells_al (unhide M1) (.cells #[.int .i64 0, .int .i64 0, .int .i64 0, .int .i64 0] 48)) 0; have fma_1 := cells_f (cells_al (unhide M1) (.cells #[.int .i64 0, .int .i64 0, .int .i64 0, .int .i64 0] 48)) 1; have fma_2 := cells_f (cells_al (unhide M1) (.cells #[.int .i64 0, .int .i64 0, .int .i64 0, .int .i64 0] 48)) 2; have fma_3 := cells_f (cells_al (unhide M1) (.cells #[.int .i64 0, .int .i64 0, .int .i64 0, .int .i64 0] 48)) 3; obtain ⟨mb_0, mb_1, mb_2, mb_3⟩ := cells4 (cells_al (unhide M1) (.cells #[.int .i64 a0, .int .i64 a1, .int .i64 a2, .int .i64 a3] 48)); have fmb_0 := cells_f (cells_al (unhide M1) (.cells #[.int .i64 a0, .int .i64 a1, .int .i64 a2, .int .i64 a3] 48)) 0; have fmb_1 := cells_f (cells_al (unhide M1) (.cells #[.int .i64 a0, .int .i64 a1, .int .i64 a2, .int .i64 a3] 48)) 1; have fmb_2 := cells_f (cells_al (unhide M1) (.cells #[.int .i64 a0, .int .i64 a1, .int .i64 a2, .int .i64 a3] 48)) 2; have fmb_3 := cells_f (cells_al (unhide M1) (.cells #[.int .i64 a0, .int .i64 a1, .int .i64 a2, .int .i64 a3] 48)) 3) | ((with_reducible have K2 := hide ((unhide KP).nx ((unhide KP).al ((unhide KP).al (unhide K1) _) _) z2)); have M1 := hide (cells_nx (cells_al (cells_new y1 48 #[.int .i64 0, .int .i64 0, .int .i64 0, .int .i64 0]) (.cells #[.int .i64 0, .int .i64 0, .int .i64 0, .int .i64 0] 48)) z2); have M2 := hide (cells_nx (cells_new2 y1 (.cells #[.int .i64 0, .int .i64 0, .int .i64 0, .int .i64 0] 48) 48 #[.int .i64 0, .int .i64 0, .int .i64 0, .int .i64 0]) z2); obtain ⟨m1_0, m1_1, m1_2, m1_3⟩ := cells4 (unhide M1); have fm1_0 := cells_f (unhide M1) 0; have fm1_1 := cells_f (unhide M1) 1; have fm1_2 := cells_f (unhide M1) 2; have fm1_3 := cells_f (unhide M1) 3; have lM1 := Nat.ne_of_lt (cells_lt (unhide M1)); have gM1 := Ne.symm lM1; obtain ⟨m2_0, m2_1, m2_2, m2_3⟩ := cells4 (unhide M2); have fm2_0 := cells_f (unhide M2) 0; have fm2_1 := cells_f (unhide M2) 1; have fm2_2 := cells_f (unhide M2) 2; have fm2_3 := cells_f (unhide M2) 3; have lM2 := Nat.ne_of_lt (cells_lt (unhide M2)); have gM2 := Ne.symm lM2; have n12 : y1.heap.size ≠ y1.heap.size + 1 := (by omega); have n21 := Ne.symm n12; obtain ⟨mc_0, mc_1, mc_2, mc_3⟩ := cells4 (cells_far4 (unhide M1) n12 (.int .i64 a0) (.int .i64 a1) (.int .i64 a2) (.int .i64 a3)); have fmc_0 := cells_f (cells_far4 (unhide M1) n12 (.int .i64 a0) (.int .i64 a1) (.int .i64 a2) (.int .i64 a3)) 0; have fmc_1 := cells_f (cells_far4 (unhide M1) n12 (.int .i64 a0) (.int .i64 a1) (.int .i64 a2) (.int .i64 a3)) 1; have fmc_2 := cells_f (cells_far4 (unhide M1) n12 (.int .i64 a0) (.int .i64 a1) (.int .i64 a2) (.int .i64 a3)) 2; have fmc_3 := cells_f (cells_far4 (unhide M1) n12 (.int .i64 a0) (.int .i64 a1) (.int .i64 a2) (.int .i64 a3)) 3; obtain ⟨md_0, md_1, md_2, md_3⟩ := cells4 (cells_far4 (unhide M2) n21 (.int .i64 a0) (.int .i64 a1) (.int .i64 a2) (.int .i64 a3)); have fmd_0 := cells_f (cells_far4 (unhide M2) n21 (.int .i64 a0) (.int .i64 a1) (.int .i64 a2) (.int .i64 a3)) 0; have fmd_1 := cells_f (cells_far4 (unhide M2) n21 (.int .i64 a0) (.int .i64 a1) (.int .i64 a2) (.int .i64 a3)) 1; have fmd_2 := cells_f (cells_far4 (unhide M2) n21 (.int .i64 a0) (.int .i64 a1) (.int .i64 a2) (.int .i64 a3)) 2; have fmd_3 := cells_f (cells_far4 (unhide M2) n21 (.int .i64 a0) (.int .i64 a1) (.int .i64 a2) (.int .i64 a3)) 3) | ((with_reducible have K2 := hide ((unhide KP).nx ((unhide KP).al (unhide K1) _) z2)); have M1 := hide (cells_nx (cells_new y1 48 #[.int .i64 0, .int .i64 0, .int .i64 0, .int .i64 0]) z2); obtain ⟨m1_0, m1_1, m1_2, m1_3⟩ := cells4 (unhide M1); have fm1_0 := cells_f (unhide M1) 0; have fm1_1 := cells_f (unhide M1) 1; have fm1_2 := cells_f (unhide M1) 2; have fm1_3 := cells_f (unhide M1) 3; have lM1 := Nat.ne_of_lt (cells_lt (unhide M1)); have gM1 := Ne.symm lM1; obtain ⟨ma_0, ma_1, ma_2, ma_3⟩ := cells4 (cells_al (unhide M1) (.cells #[.int .i64 0, .int .i64 0, .int .i64 0, .int .i64 0] 48)); have fma_0 := cells_f (cells_al (unhide M1) (.cells #[.int .i64 0, .int .i64 0, .int .i64 0, .int .i64 0] 48)) 0; have fma_1 := cells_f (cells_al (unhide M1) (.cells #[.int .i64 0, .int .i64 0, .int .i64 0, .int .i64 0] 48)) 1; have fma_2 := cells_f (cells_al (unhide M1) (.cells #[.int .i64 0, .int .i64 0, .int .i64 0, .int .i64 0] 48)) 2; have fma_3 := cells_f (cells_al (unhide M1) (.cells #[.int .i64 0, .int .i64 0, .int .i64 0, .int .i64 0] 48)) 3; obtain ⟨mb_0, mb_1, mb_2, mb_3⟩ := cells4 (cells_al (unhide M1) (.cells #[.int .i64 a0, .int .i64 a1, .int .i64 a2, .int .i64 a3] 48)); have fmb_0 := cells_f (cells_al (unhide M1) (.cells #[.int .i64 a0, .int .i64 a1, .int .i64 a2, .int .i64 a3] 48)) 0; have fmb_1 := cells_f (cells_al (unhide M1) (.cells #[.int .i64 a0, .int .i64 a1, .int .i64 a2, .int .i64 a3] 48)) 1; have fmb_2 := cells_f (cells_al (unhide M1) (.cells #[.int .i64 a0, .int .i64 a1, .int .i64 a2, .int .i64 a3] 48)) 2; have fmb_3 := cells_f (cells_al (unhide M1) (.cells #[.int .i64 a0, .int .i64 a1, .int .i64 a2, .int .i64 a3] 48)) 3) | ((with_reducible have K2 := hide ((unhide KP).nx (unhide K1) z2)))); have s2 : y1.heap.size ≤ y2.heap.size := (by have := z2.size; (try simp at this); omega); clear z2 e0 e1 e2 e3 e4 e5 e6 e7; obtain ⟨e0, e1, e2, e3, e4, e5, e6, e7⟩ := unhide HS _ (unhide K2)))
    all_goals (try go_wp2_with fail)
    all_goals go_meet
    all_goals exact ⟨_, _, rfl, rfl, hide (by (repeat (first | with_reducible exact unhide M1 | with_reducible exact unhide M2 | with_reducible exact cells_new _ _ _ | with_reducible exact cells_new2 _ _ _ _ | with_reducible refine cells_drew ?_ | with_reducible refine cells_set4 (a := .int .i64 0) (b := .int .i64 0) (c := .int .i64 0) (d := .int .i64 0) ?_ _ _ _ _ | with_reducible refine cells_far4 ?_ (by omega) _ _ _ _ | with_reducible refine cells_al ?_ _))), hide (by (repeat (first | with_reducible exact unhide M1 | with_reducible exact unhide M2 | with_reducible exact cells_new _ _ _ | with_reducible exact cells_new2 _ _ _ _ | with_reducible refine cells_drew ?_ | with_reducible refine cells_set4 (a := .int .i64 0) (b := .int .i64 0) (c := .int .i64 0) (d := .int .i64 0) ?_ _ _ _ _ | with_reducible refine cells_far4 ?_ (by omega) _ _ _ _ | with_reducible refine cells_al ?_ _))), hide (by ((repeat (first | with_reducible refine (unhide KP).drew ?_ | with_reducible refine (unhide KP).al ?_ _ | with_reducible refine (unhide KP).set _ ?_ (by omega))); first | with_reducible exact unhide K0 | with_reducible exact unhide K1 | with_reducible exact unhide K2))⟩
  case rest =>
    obtain ⟨F, T, rfl, rfl, E, G, HK⟩ := hcut
    obtain ⟨hA, hB, hC, hb⟩ := unhide HR _ (unhide HK)
    have A := hide hA
    have B := hide hB
    have C := hide hC
    have HB := hide hb
    clear hA hB hC hb HK HS HR KP K0 HX HY HFX HFY
    obtain ⟨e_0, e_1, e_2, e_3⟩ := cells4 (unhide E)
    obtain ⟨g_0, g_1, g_2, g_3⟩ := cells4 (unhide G)
    go_wp2_with fail
    refine (unhide HM1 _).mono ?_
    rintro e wk3 ⟨rfl, bk3⟩
    replace A := hide (cells_nx (unhide A) bk3)
    replace B := hide (cells_nx (unhide B) bk3)
    replace C := hide (cells_nx (unhide C) bk3)
    replace E := hide (cells_nx (unhide E) bk3)
    replace G := hide (cells_nx (unhide G) bk3)
    replace HB := hide (below_nx (unhide HB) bk3)
    clear bk3
    clear e_0 e_1 e_2 e_3 g_0 g_1 g_2 g_3
    go_upto_region 5 with fail
    have M := hide (cells_new wk3 48 #[.int .i64 m0, .int .i64 m1, .int .i64 m2, .int .i64 m3])
    replace A := hide (cells_al (unhide A) (.cells #[.int .i64 m0, .int .i64 m1, .int .i64 m2, .int .i64 m3] 48))
    replace B := hide (cells_al (unhide B) (.cells #[.int .i64 m0, .int .i64 m1, .int .i64 m2, .int .i64 m3] 48))
    replace C := hide (cells_al (unhide C) (.cells #[.int .i64 m0, .int .i64 m1, .int .i64 m2, .int .i64 m3] 48))
    replace E := hide (cells_al (unhide E) (.cells #[.int .i64 m0, .int .i64 m1, .int .i64 m2, .int .i64 m3] 48))
    replace G := hide (cells_al (unhide G) (.cells #[.int .i64 m0, .int .i64 m1, .int .i64 m2, .int .i64 m3] 48))
    replace HB := hide ((unhide HB).alloc (unhide HB).size (.cells #[.int .i64 m0, .int .i64 m1, .int .i64 m2, .int .i64 m3] 48))
    generalize hW : wk3.alloc (.cells #[.int .i64 m0, .int .i64 m1, .int .i64 m2, .int .i64 m3] 48) = WM3 at M A B C E G HB ⊢
    clear hW
    obtain ⟨e_0, e_1, e_2, e_3⟩ := cells4 (unhide E)
    obtain ⟨g_0, g_1, g_2, g_3⟩ := cells4 (unhide G)
    go_wp2_with fail
    refine (unhide HM2 _).mono ?_
    rintro e wk4 ⟨rfl, bk4⟩
    replace A := hide (cells_nx (unhide A) bk4)
    replace B := hide (cells_nx (unhide B) bk4)
    replace C := hide (cells_nx (unhide C) bk4)
    replace E := hide (cells_nx (unhide E) bk4)
    replace G := hide (cells_nx (unhide G) bk4)
    replace M := hide (cells_nx (unhide M) bk4)
    replace HB := hide (below_nx (unhide HB) bk4)
    clear bk4
    clear e_0 e_1 e_2 e_3 g_0 g_1 g_2 g_3
    go_upto_region 6 with fail
    have N := hide (cells_new wk4 48 #[.int .i64 m0, .int .i64 m1, .int .i64 m2, .int .i64 m3])
    replace A := hide (cells_al (unhide A) (.cells #[.int .i64 m0, .int .i64 m1, .int .i64 m2, .int .i64 m3] 48))
    replace B := hide (cells_al (unhide B) (.cells #[.int .i64 m0, .int .i64 m1, .int .i64 m2, .int .i64 m3] 48))
    replace C := hide (cells_al (unhide C) (.cells #[.int .i64 m0, .int .i64 m1, .int .i64 m2, .int .i64 m3] 48))
    replace E := hide (cells_al (unhide E) (.cells #[.int .i64 m0, .int .i64 m1, .int .i64 m2, .int .i64 m3] 48))
    replace G := hide (cells_al (unhide G) (.cells #[.int .i64 m0, .int .i64 m1, .int .i64 m2, .int .i64 m3] 48))
    replace M := hide (cells_al (unhide M) (.cells #[.int .i64 m0, .int .i64 m1, .int .i64 m2, .int .i64 m3] 48))
    replace HB := hide ((unhide HB).alloc (unhide HB).size (.cells #[.int .i64 m0, .int .i64 m1, .int .i64 m2, .int .i64 m3] 48))
    generalize hW : wk4.alloc (.cells #[.int .i64 m0, .int .i64 m1, .int .i64 m2, .int .i64 m3] 48) = WM4 at N A B C E G M HB ⊢
    clear hW
    have NE := fun w => area_ne_self m0 m1 m2 m3 w
    have KB : (ok != ok) = false := by cases ok <;> rfl
    go_wp2_with fail
    refine (unhide HWK _ ((unhide HE).below (unhide HB))).mono ?_
    rintro e wk5 ⟨rfl, bk5⟩
    replace A := hide (cells_nx (unhide A) bk5)
    replace B := hide (cells_nx (unhide B) bk5)
    replace C := hide (cells_nx (unhide C) bk5)
    replace E := hide (cells_nx (unhide E) bk5)
    replace G := hide (cells_nx (unhide G) bk5)
    replace M := hide (cells_nx (unhide M) bk5)
    replace N := hide (cells_nx (unhide N) bk5)
    replace HB := hide (below_nx (unhide HB) bk5)
    clear bk5
    obtain ⟨m_0, m_1, m_2, m_3⟩ := cells4 (unhide M)
    obtain ⟨n_0, n_1, n_2, n_3⟩ := cells4 (unhide N)
    go_upto_region 8 with fail
    clear m_0 m_1 m_2 m_3 n_0 n_1 n_2 n_3
    clear NE KB
    clear N
    obtain ⟨e_0, e_1, e_2, e_3⟩ := cells4 (unhide E)
    go_wp2_with fail
    refine (unhide HGA _).mono ?_
    rintro e wk6 ⟨rfl, bk6⟩
    replace A := hide (cells_nx (unhide A) bk6)
    replace B := hide (cells_nx (unhide B) bk6)
    replace C := hide (cells_nx (unhide C) bk6)
    replace E := hide (cells_nx (unhide E) bk6)
    replace G := hide (cells_nx (unhide G) bk6)
    replace M := hide (cells_nx (unhide M) bk6)
    replace HB := hide (below_nx (unhide HB) bk6)
    clear bk6
    clear e_0 e_1 e_2 e_3
    cases ga : areaG a0 a1 a2 a3
    · have EO := unhide ON (by rw [ga]; rfl)
      rw [EO]
      go_wp2
      go_ret
      exact ⟨rfl, unhide HB⟩
    · obtain ⟨g_0, g_1, g_2, g_3⟩ := cells4 (unhide G)
      go_wp2_with fail
      refine (unhide HGB _).mono ?_
      rintro e wk7 ⟨rfl, bk7⟩
      replace A := hide (cells_nx (unhide A) bk7)
      replace B := hide (cells_nx (unhide B) bk7)
      replace C := hide (cells_nx (unhide C) bk7)
      replace E := hide (cells_nx (unhide E) bk7)
      replace G := hide (cells_nx (unhide G) bk7)
      replace M := hide (cells_nx (unhide M) bk7)
      replace HB := hide (below_nx (unhide HB) bk7)
      clear bk7
      clear g_0 g_1 g_2 g_3
      cases gb : areaG b0 b1 b2 b3
      · have EO := unhide ON (by rw [ga, gb]; rfl)
        rw [EO]
        go_wp2
        go_ret
        exact ⟨rfl, unhide HB⟩
      · go_upto_region 10 with fail
        have g1 := unhide GX1 ga
        have g2 := unhide GX2 ga
        have R1 := hide (fun w => unhide HHA X.a.col X.a.row w)
        have R2 := hide (fun w => unhide HHA X.b.col X.b.row w)
        rw [g1] at R1
        rw [g2] at R2
        clear g1 g2 GX1 GX2
        go_cut [105] from 77 to 104 (fun v wx => v = .bool false ∧ Hid (CellsAt wx (wk1.heap.size) 31 #[.string X.book, .string X.sheet, .int .i64 X.a.col, .int .i64 X.a.row, .bool X.a.fc, .bool X.a.fr, .int .i64 X.b.col, .int .i64 X.b.row, .bool X.b.fc, .bool X.b.fr, .bool X.wide]) ∧ Hid (CellsAt wx (wk2.heap.size) 31 #[.string Y.book, .string Y.sheet, .int .i64 Y.a.col, .int .i64 Y.a.row, .bool Y.a.fc, .bool Y.a.fr, .int .i64 Y.b.col, .int .i64 Y.b.row, .bool Y.b.fc, .bool Y.b.fr, .bool Y.wide]) ∧ Hid (CellsAt wx (w.heap.size + 2) 22 #[.int .i64 c0, .int .i64 c1]) ∧ Hid (CellsAt wx (F) 48 #[.int .i64 a0, .int .i64 a1, .int .i64 a2, .int .i64 a3]) ∧ Hid (CellsAt wx (T) 48 #[.int .i64 b0, .int .i64 b1, .int .i64 b2, .int .i64 b3]) ∧ Hid (CellsAt wx (wk3.heap.size) 48 #[.int .i64 m0, .int .i64 m1, .int .i64 m2, .int .i64 m3]) ∧ Hid (Below w.heap.size w wx))
        case first =>
          cases ok
          · replace A := hide (cells_drew (unhide A))
            replace B := hide (cells_drew (unhide B))
            replace C := hide (cells_drew (unhide C))
            replace E := hide (cells_drew (unhide E))
            replace G := hide (cells_drew (unhide G))
            replace M := hide (cells_drew (unhide M))
            replace HB := hide (unhide HB).drew
            obtain ⟨e_0, e_1, e_2, e_3⟩ := cells4 (unhide E)
            obtain ⟨a_0, a_1, a_2, a_3, a_4, a_5, a_6, a_7, a_8, a_9, a_10⟩ := cells11 (unhide A)
            refine wp_region_held_drew (S := (fun w' => w'.cell? ⟨F, 0, none⟩ = some (.int .i64 a0) ∧ w'.cell? ⟨F, 1, none⟩ = some (.int .i64 a1) ∧ w'.cell? ⟨F, 2, none⟩ = some (.int .i64 a2) ∧ w'.cell? ⟨F, 3, none⟩ = some (.int .i64 a3) ∧ w'.cell? ⟨wk1.heap.size, 2, none⟩ = some (.int .i64 X.a.col) ∧ w'.cell? ⟨wk1.heap.size, 3, none⟩ = some (.int .i64 X.a.row) ∧ w'.cell? ⟨wk1.heap.size, 6, none⟩ = some (.int .i64 X.b.col) ∧ w'.cell? ⟨wk1.heap.size, 7, none⟩ = some (.int .i64 X.b.row))) (by kernel_rfl) ⟨e_0, e_1, e_2, e_3, a_2, a_3, a_6, a_7⟩ (fun hHeld => ?_)
            refine wpAnyH_take (i := 0) (oi := ({ dst := some 77, op := Op.load 48 (Operand.tmp 11), type := 48, pos := "law.go:122", after := #[], guard := none } : Oper)) (v := .agg #[.int .i64 a0, .int .i64 a1, .int .i64 a2, .int .i64 a3]) rfl (by kernel_rfl) (by kernel_rfl) (by kernel_rfl) (fun _ _ _ h => h) (Or.inl ⟨by rfl, fun w hSw => by (try dsimp only at hSw); go_simp⟩) hHeld ?_
            (try simp only [Act.put, List.setIfInBounds_toArray, List.set_cons_zero, List.set_cons_succ])
            refine wpAnyH_take (i := 1) (oi := ({ dst := some 78, op := Op.fieldAddr 31 (Operand.tmp 7) 2, type := 0, pos := "law.go:122", after := #[], guard := none } : Oper)) (v := .pointer (some ⟨wk1.heap.size, 2, none⟩)) rfl (by kernel_rfl) (by kernel_rfl) (by kernel_rfl) (fun _ _ _ h => h) (Or.inl ⟨by rfl, fun w hSw => by (try dsimp only at hSw); go_simp⟩) hHeld ?_
            (try simp only [Act.put, List.setIfInBounds_toArray, List.set_cons_zero, List.set_cons_succ])
            refine wpAnyH_take (i := 2) (oi := ({ dst := some 79, op := Op.fieldAddr 29 (Operand.tmp 78) 0, type := 0, pos := "law.go:122", after := #[{ on := 1, ground := Ground.data }], guard := none } : Oper)) (v := .pointer (some ⟨wk1.heap.size, 2, none⟩)) rfl (by kernel_rfl) (by kernel_rfl) (by kernel_rfl) (fun _ _ _ h => h) (Or.inl ⟨by rfl, fun w hSw => by (try dsimp only at hSw); go_simp⟩) hHeld ?_
            (try simp only [Act.put, List.setIfInBounds_toArray, List.set_cons_zero, List.set_cons_succ])
            refine wpAnyH_take (i := 3) (oi := ({ dst := some 80, op := Op.load 27 (Operand.tmp 79), type := 27, pos := "law.go:122", after := #[{ on := 2, ground := Ground.data }], guard := none } : Oper)) (v := .agg #[.int .i64 X.a.col, .int .i64 X.a.row]) rfl (by kernel_rfl) (by kernel_rfl) (by kernel_rfl) (fun _ _ _ h => h) (Or.inl ⟨by rfl, fun w hSw => by (try dsimp only at hSw); go_simp⟩) hHeld ?_
            (try simp only [Act.put, List.setIfInBounds_toArray, List.set_cons_zero, List.set_cons_succ])
            refine wpAnyH_ready (rs := [4]) (by kernel_rfl) (by simp) ?_
            refine AllReadyH.cons (o := ({ dst := some 81, op := Op.call { callee := Callee.value (Operand.func 25), args := #[Operand.tmp 77, Operand.tmp 80], argTypes := #[48, 27] }, type := 4, pos := "law.go:122", after := #[{ on := 0, ground := Ground.data }, { on := 3, ground := Ground.data }], guard := none } : Oper)) rfl (fun K hK => ?_) AllReadyH.nil
            go_simp
            refine (unhide R1 _).mono ?_
            rintro e yy ⟨rfl, zz⟩
            replace A := hide (cells_nx (unhide A) zz)
            replace B := hide (cells_nx (unhide B) zz)
            replace C := hide (cells_nx (unhide C) zz)
            replace E := hide (cells_nx (unhide E) zz)
            replace G := hide (cells_nx (unhide G) zz)
            replace M := hide (cells_nx (unhide M) zz)
            replace HB := hide (below_nx (unhide HB) zz)
            clear zz
            clear e_0 e_1 e_2 e_3 a_0 a_1 a_2 a_3 a_4 a_5 a_6 a_7 a_8 a_9 a_10
            obtain ⟨e_0, e_1, e_2, e_3⟩ := cells4 (unhide E)
            obtain ⟨a_0, a_1, a_2, a_3, a_4, a_5, a_6, a_7, a_8, a_9, a_10⟩ := cells11 (unhide A)
            go_wp2_with fail
            refine hK.out _ _ ⟨e_0, e_1, e_2, e_3, a_2, a_3, a_6, a_7⟩ (fun hHeld2 => ?_)
            clear hK K hHeld
            have hHeld := hHeld2
            clear hHeld2
            (try simp only [Act.put, List.setIfInBounds_toArray, List.set_cons_zero, List.set_cons_succ])
            refine wpAnyH_take (i := 5) (oi := ({ dst := some 82, op := Op.unOp UnOp.not 4 (Operand.tmp 81), type := 4, pos := "law.go:122", after := #[{ on := 4, ground := Ground.data }], guard := none } : Oper)) (v := .bool false) rfl (by kernel_rfl) (by kernel_rfl) (by kernel_rfl) (fun _ _ _ h => h) (Or.inl ⟨by rfl, fun w hSw => by (try dsimp only at hSw); go_simp⟩) hHeld ?_
            (try simp only [Act.put, List.setIfInBounds_toArray, List.set_cons_zero, List.set_cons_succ])
            refine wpAnyH_take (i := 6) (oi := ({ dst := some 83, op := Op.move (Operand.tmp 82), type := 4, pos := "law.go:122", after := #[{ on := 5, ground := Ground.data }, { on := 4, ground := Ground.chain }], guard := none } : Oper)) (v := .bool false) rfl (by kernel_rfl) (by kernel_rfl) (by kernel_rfl) (fun _ _ _ h => h) (Or.inl ⟨by rfl, fun w hSw => by (try dsimp only at hSw); go_simp⟩) hHeld ?_
            (try simp only [Act.put, List.setIfInBounds_toArray, List.set_cons_zero, List.set_cons_succ])
            refine wpAnyH_take (i := 7) (oi := ({ dst := some 84, op := Op.load 48 (Operand.tmp 11), type := 48, pos := "law.go:122", after := #[{ on := 6, ground := Ground.guard }], guard := some (6, false) } : Oper)) (v := .agg #[.int .i64 a0, .int .i64 a1, .int .i64 a2, .int .i64 a3]) rfl (by kernel_rfl) (by kernel_rfl) (by kernel_rfl) (fun _ _ _ h => h) (Or.inl ⟨by rfl, fun w hSw => by (try dsimp only at hSw); go_simp⟩) hHeld ?_
            (try simp only [Act.put, List.setIfInBounds_toArray, List.set_cons_zero, List.set_cons_succ])
            refine wpAnyH_take (i := 8) (oi := ({ dst := some 85, op := Op.fieldAddr 31 (Operand.tmp 7) 3, type := 0, pos := "law.go:122", after := #[{ on := 6, ground := Ground.guard }], guard := some (6, false) } : Oper)) (v := .pointer (some ⟨wk1.heap.size, 6, none⟩)) rfl (by kernel_rfl) (by kernel_rfl) (by kernel_rfl) (fun _ _ _ h => h) (Or.inl ⟨by rfl, fun w hSw => by (try dsimp only at hSw); go_simp⟩) hHeld ?_
            (try simp only [Act.put, List.setIfInBounds_toArray, List.set_cons_zero, List.set_cons_succ])
            refine wpAnyH_take (i := 9) (oi := ({ dst := some 86, op := Op.fieldAddr 29 (Operand.tmp 85) 0, type := 0, pos := "law.go:122", after := #[{ on := 8, ground := Ground.data }, { on := 6, ground := Ground.guard }], guard := some (6, false) } : Oper)) (v := .pointer (some ⟨wk1.heap.size, 6, none⟩)) rfl (by kernel_rfl) (by kernel_rfl) (by kernel_rfl) (fun _ _ _ h => h) (Or.inl ⟨by rfl, fun w hSw => by (try dsimp only at hSw); go_simp⟩) hHeld ?_
            (try simp only [Act.put, List.setIfInBounds_toArray, List.set_cons_zero, List.set_cons_succ])
            refine wpAnyH_take (i := 10) (oi := ({ dst := some 87, op := Op.load 27 (Operand.tmp 86), type := 27, pos := "law.go:122", after := #[{ on := 9, ground := Ground.data }, { on := 6, ground := Ground.guard }], guard := some (6, false) } : Oper)) (v := .agg #[.int .i64 X.b.col, .int .i64 X.b.row]) rfl (by kernel_rfl) (by kernel_rfl) (by kernel_rfl) (fun _ _ _ h => h) (Or.inl ⟨by rfl, fun w hSw => by (try dsimp only at hSw); go_simp⟩) hHeld ?_
            (try simp only [Act.put, List.setIfInBounds_toArray, List.set_cons_zero, List.set_cons_succ])
            refine wpAnyH_ready (rs := [11]) (by kernel_rfl) (by simp) ?_
            refine AllReadyH.cons (o := ({ dst := some 88, op := Op.call { callee := Callee.value (Operand.func 25), args := #[Operand.tmp 84, Operand.tmp 87], argTypes := #[48, 27] }, type := 4, pos := "law.go:122", after := #[{ on := 7, ground := Ground.data }, { on := 10, ground := Ground.data }, { on := 6, ground := Ground.chain }, { on := 6, ground := Ground.guard }], guard := some (6, false) } : Oper)) rfl (fun K hK => ?_) AllReadyH.nil
            go_simp
            refine (unhide R2 _).mono ?_
            rintro e yy ⟨rfl, zz⟩
            replace A := hide (cells_nx (unhide A) zz)
            replace B := hide (cells_nx (unhide B) zz)
            replace C := hide (cells_nx (unhide C) zz)
            replace E := hide (cells_nx (unhide E) zz)
            replace G := hide (cells_nx (unhide G) zz)
            replace M := hide (cells_nx (unhide M) zz)
            replace HB := hide (below_nx (unhide HB) zz)
            clear zz
            clear e_0 e_1 e_2 e_3 a_0 a_1 a_2 a_3 a_4 a_5 a_6 a_7 a_8 a_9 a_10
            obtain ⟨e_0, e_1, e_2, e_3⟩ := cells4 (unhide E)
            obtain ⟨a_0, a_1, a_2, a_3, a_4, a_5, a_6, a_7, a_8, a_9, a_10⟩ := cells11 (unhide A)
            go_wp2_with fail
            refine hK.out _ _ ⟨e_0, e_1, e_2, e_3, a_2, a_3, a_6, a_7⟩ (fun hHeld2 => ?_)
            clear hK K hHeld
            have hHeld := hHeld2
            clear hHeld2
            (try simp only [Act.put, List.setIfInBounds_toArray, List.set_cons_zero, List.set_cons_succ])
            refine wpAnyH_take (i := 12) (oi := ({ dst := some 89, op := Op.unOp UnOp.not 4 (Operand.tmp 88), type := 4, pos := "law.go:122", after := #[{ on := 11, ground := Ground.data }, { on := 6, ground := Ground.guard }], guard := some (6, false) } : Oper)) (v := .bool false) rfl (by kernel_rfl) (by kernel_rfl) (by kernel_rfl) (fun _ _ _ h => h) (Or.inl ⟨by rfl, fun w hSw => by (try dsimp only at hSw); go_simp⟩) hHeld ?_
            (try simp only [Act.put, List.setIfInBounds_toArray, List.set_cons_zero, List.set_cons_succ])
            refine wpAnyH_take (i := 13) (oi := ({ dst := some 90, op := Op.pick (Operand.tmp 83) (Operand.const (Value.bool true)) (Operand.tmp 89), type := 4, pos := "law.go:122", after := #[{ on := 6, ground := Ground.data }, { on := 12, ground := Ground.data }], guard := none } : Oper)) (v := .bool false) rfl (by kernel_rfl) (by kernel_rfl) (by kernel_rfl) (fun _ _ _ h => h) (Or.inl ⟨by rfl, fun w hSw => by (try dsimp only at hSw); go_simp⟩) hHeld ?_
            (try simp only [Act.put, List.setIfInBounds_toArray, List.set_cons_zero, List.set_cons_succ])
            refine wpAnyH_take (i := 14) (oi := ({ dst := some 91, op := Op.move (Operand.tmp 90), type := 4, pos := "law.go:122", after := #[{ on := 13, ground := Ground.data }, { on := 11, ground := Ground.chain }], guard := none } : Oper)) (v := .bool false) rfl (by kernel_rfl) (by kernel_rfl) (by kernel_rfl) (fun _ _ _ h => h) (Or.inl ⟨by rfl, fun w hSw => by (try dsimp only at hSw); go_simp⟩) hHeld ?_
            (try simp only [Act.put, List.setIfInBounds_toArray, List.set_cons_zero, List.set_cons_succ])
            refine wpAnyH_take (i := 15) (oi := ({ dst := some 92, op := Op.move (Operand.tmp 14), type := 4, pos := "law.go:122", after := #[{ on := 14, ground := Ground.guard }], guard := some (14, false) } : Oper)) (v := .bool false) rfl (by kernel_rfl) (by kernel_rfl) (by kernel_rfl) (fun _ _ _ h => h) (Or.inl ⟨by rfl, fun w hSw => by (try dsimp only at hSw); go_simp⟩) hHeld ?_
            (try simp only [Act.put, List.setIfInBounds_toArray, List.set_cons_zero, List.set_cons_succ])
            refine wpAnyH_take (i := 16) (oi := ({ dst := some 93, op := Op.move (Operand.tmp 92), type := 4, pos := "law.go:122", after := #[{ on := 15, ground := Ground.data }, { on := 14, ground := Ground.chain }, { on := 14, ground := Ground.guard }], guard := some (14, false) } : Oper)) (v := .bool false) rfl (by kernel_rfl) (by kernel_rfl) (by kernel_rfl) (fun _ _ _ h => h) (Or.inl ⟨by rfl, fun w hSw => by (try dsimp only at hSw); go_simp⟩) hHeld ?_
            (try simp only [Act.put, List.setIfInBounds_toArray, List.set_cons_zero, List.set_cons_succ])
            refine wpAnyH_take (i := 17) (oi := ({ dst := some 94, op := Op.load 48 (Operand.tmp 13), type := 48, pos := "law.go:122", after := #[{ on := 16, ground := Ground.guard }], guard := some (16, true) } : Oper)) (v := Go.undef) rfl (by kernel_rfl) (by kernel_rfl) (by kernel_rfl) (fun _ _ _ h => h) (Or.inr ⟨by rfl, rfl⟩) hHeld ?_
            (try simp only [Act.put, List.setIfInBounds_toArray, List.set_cons_zero, List.set_cons_succ])
            refine wpAnyH_ready (rs := [18]) (by kernel_rfl) (by simp) ?_
            refine AllReadyH.cons (o := ({ dst := some 95, op := Op.call { callee := Callee.value (Operand.func 22), args := #[Operand.tmp 94], argTypes := #[48] }, type := 4, pos := "law.go:122", after := #[{ on := 17, ground := Ground.data }, { on := 16, ground := Ground.chain }, { on := 16, ground := Ground.guard }], guard := some (16, true) } : Oper)) rfl (fun K hK => ?_) AllReadyH.nil
            go_simp
            refine hK.out _ _ ⟨e_0, e_1, e_2, e_3, a_2, a_3, a_6, a_7⟩ (fun hHeld2 => ?_)
            clear hK K hHeld
            have hHeld := hHeld2
            clear hHeld2
            (try simp only [Act.put, List.setIfInBounds_toArray, List.set_cons_zero, List.set_cons_succ])
            refine wpAnyH_take (i := 19) (oi := ({ dst := some 96, op := Op.unOp UnOp.not 4 (Operand.tmp 95), type := 4, pos := "law.go:122", after := #[{ on := 18, ground := Ground.data }, { on := 16, ground := Ground.guard }], guard := some (16, true) } : Oper)) (v := Go.undef) rfl (by kernel_rfl) (by kernel_rfl) (by kernel_rfl) (fun _ _ _ h => h) (Or.inr ⟨by rfl, rfl⟩) hHeld ?_
            (try simp only [Act.put, List.setIfInBounds_toArray, List.set_cons_zero, List.set_cons_succ])
            refine wpAnyH_take (i := 20) (oi := ({ dst := some 97, op := Op.move (Operand.tmp 96), type := 4, pos := "law.go:122", after := #[{ on := 19, ground := Ground.data }, { on := 18, ground := Ground.chain }, { on := 16, ground := Ground.guard }], guard := some (16, true) } : Oper)) (v := Go.undef) rfl (by kernel_rfl) (by kernel_rfl) (by kernel_rfl) (fun _ _ _ h => h) (Or.inr ⟨by rfl, rfl⟩) hHeld ?_
            (try simp only [Act.put, List.setIfInBounds_toArray, List.set_cons_zero, List.set_cons_succ])
            refine wpAnyH_take (i := 21) (oi := ({ dst := some 98, op := Op.load 48 (Operand.tmp 13), type := 48, pos := "law.go:122", after := #[{ on := 20, ground := Ground.guard }], guard := some (20, false) } : Oper)) (v := Go.undef) rfl (by kernel_rfl) (by kernel_rfl) (by kernel_rfl) (fun _ _ _ h => h) (Or.inr ⟨by rfl, rfl⟩) hHeld ?_
            (try simp only [Act.put, List.setIfInBounds_toArray, List.set_cons_zero, List.set_cons_succ])
            refine wpAnyH_take (i := 23) (oi := ({ dst := some 100, op := Op.load 48 (Operand.tmp 11), type := 48, pos := "law.go:122", after := #[{ on := 20, ground := Ground.guard }], guard := some (20, false) } : Oper)) (v := Go.undef) rfl (by kernel_rfl) (by kernel_rfl) (by kernel_rfl) (fun _ _ _ h => h) (Or.inr ⟨by rfl, rfl⟩) hHeld ?_
            (try simp only [Act.put, List.setIfInBounds_toArray, List.set_cons_zero, List.set_cons_succ])
            refine wpAnyH_ready (rs := [22]) (by kernel_rfl) (by simp) ?_
            refine AllReadyH.cons (o := ({ dst := some 99, op := Op.call { callee := Callee.value (Operand.func 24), args := #[Operand.tmp 98], argTypes := #[48] }, type := 3, pos := "law.go:122", after := #[{ on := 21, ground := Ground.data }, { on := 20, ground := Ground.chain }, { on := 20, ground := Ground.guard }], guard := some (20, false) } : Oper)) rfl (fun K hK => ?_) AllReadyH.nil
            go_simp
            refine hK.out _ _ ⟨e_0, e_1, e_2, e_3, a_2, a_3, a_6, a_7⟩ (fun hHeld2 => ?_)
            clear hK K hHeld
            have hHeld := hHeld2
            clear hHeld2
            (try simp only [Act.put, List.setIfInBounds_toArray, List.set_cons_zero, List.set_cons_succ])
            refine wpAnyH_ready (rs := [24]) (by kernel_rfl) (by simp) ?_
            refine AllReadyH.cons (o := ({ dst := some 101, op := Op.call { callee := Callee.value (Operand.func 24), args := #[Operand.tmp 100], argTypes := #[48] }, type := 3, pos := "law.go:122", after := #[{ on := 23, ground := Ground.data }, { on := 22, ground := Ground.chain }, { on := 20, ground := Ground.guard }], guard := some (20, false) } : Oper)) rfl (fun K hK => ?_) AllReadyH.nil
            go_simp
            refine hK.out _ _ ⟨e_0, e_1, e_2, e_3, a_2, a_3, a_6, a_7⟩ (fun hHeld2 => ?_)
            clear hK K hHeld
            have hHeld := hHeld2
            clear hHeld2
            (try simp only [Act.put, List.setIfInBounds_toArray, List.set_cons_zero, List.set_cons_succ])
            refine wpAnyH_take (i := 25) (oi := ({ dst := some 102, op := Op.binOp BinOp.gtr 3 (Operand.tmp 99) (Operand.tmp 101) 3, type := 4, pos := "law.go:122", after := #[{ on := 22, ground := Ground.data }, { on := 24, ground := Ground.data }, { on := 20, ground := Ground.guard }], guard := some (20, false) } : Oper)) (v := Go.undef) rfl (by kernel_rfl) (by kernel_rfl) (by kernel_rfl) (fun _ _ _ h => h) (Or.inr ⟨by rfl, rfl⟩) hHeld ?_
            (try simp only [Act.put, List.setIfInBounds_toArray, List.set_cons_zero, List.set_cons_succ])
            refine wpAnyH_take (i := 26) (oi := ({ dst := some 103, op := Op.pick (Operand.tmp 97) (Operand.const (Value.bool true)) (Operand.tmp 102), type := 4, pos := "law.go:122", after := #[{ on := 20, ground := Ground.data }, { on := 25, ground := Ground.data }, { on := 16, ground := Ground.guard }], guard := some (16, true) } : Oper)) (v := Go.undef) rfl (by kernel_rfl) (by kernel_rfl) (by kernel_rfl) (fun _ _ _ h => h) (Or.inr ⟨by rfl, rfl⟩) hHeld ?_
            (try simp only [Act.put, List.setIfInBounds_toArray, List.set_cons_zero, List.set_cons_succ])
            refine wpAnyH_take (i := 27) (oi := ({ dst := some 104, op := Op.pick (Operand.tmp 93) (Operand.tmp 103) (Operand.const (Value.bool false)), type := 4, pos := "law.go:122", after := #[{ on := 16, ground := Ground.data }, { on := 26, ground := Ground.data }, { on := 14, ground := Ground.guard }], guard := some (14, false) } : Oper)) (v := .bool false) rfl (by kernel_rfl) (by kernel_rfl) (by kernel_rfl) (fun _ _ _ h => h) (Or.inl ⟨by rfl, fun w hSw => by (try dsimp only at hSw); go_simp⟩) hHeld ?_
            (try simp only [Act.put, List.setIfInBounds_toArray, List.set_cons_zero, List.set_cons_succ])
            refine wpAnyH_take (i := 28) (oi := ({ dst := some 105, op := Op.pick (Operand.tmp 91) (Operand.const (Value.bool true)) (Operand.tmp 104), type := 4, pos := "law.go:122", after := #[{ on := 14, ground := Ground.data }, { on := 27, ground := Ground.data }], guard := none } : Oper)) (v := .bool false) rfl (by kernel_rfl) (by kernel_rfl) (by kernel_rfl) (fun _ _ _ h => h) (Or.inl ⟨by rfl, fun w hSw => by (try dsimp only at hSw); go_simp⟩) hHeld ?_
            (try simp only [Act.put, List.setIfInBounds_toArray, List.set_cons_zero, List.set_cons_succ])
            refine wpAnyH_done (by kernel_rfl) ?_ _
            (try go_wp2_with fail)
            go_meet
            exact ⟨rfl, A, B, C, E, G, M, HB⟩
          · have R3 := hide (fun w => unhide HGM w)
            rw [unhide OG rfl] at R3
            have sz := unhide OS rfl
            have R4 := hide (fun w => unhide HSM w)
            have R5 := hide (fun w => unhide HSA w)
            generalize areaN m0 m1 m2 m3 = nm at R4 sz
            generalize areaN a0 a1 a2 a3 = na at R5 sz
            have sz1 : (na < nm) = False := by simp; omega
            have sz2 : decide (na < nm) = false := by simp; omega
            replace A := hide (cells_drew (unhide A))
            replace B := hide (cells_drew (unhide B))
            replace C := hide (cells_drew (unhide C))
            replace E := hide (cells_drew (unhide E))
            replace G := hide (cells_drew (unhide G))
            replace M := hide (cells_drew (unhide M))
            replace HB := hide (unhide HB).drew
            obtain ⟨e_0, e_1, e_2, e_3⟩ := cells4 (unhide E)
            obtain ⟨a_0, a_1, a_2, a_3, a_4, a_5, a_6, a_7, a_8, a_9, a_10⟩ := cells11 (unhide A)
            obtain ⟨m_0, m_1, m_2, m_3⟩ := cells4 (unhide M)
            go_region_held3 (fun w' => w'.cell? ⟨F, 0, none⟩ = some (.int .i64 a0) ∧ w'.cell? ⟨F, 1, none⟩ = some (.int .i64 a1) ∧ w'.cell? ⟨F, 2, none⟩ = some (.int .i64 a2) ∧ w'.cell? ⟨F, 3, none⟩ = some (.int .i64 a3) ∧ w'.cell? ⟨wk1.heap.size, 2, none⟩ = some (.int .i64 X.a.col) ∧ w'.cell? ⟨wk1.heap.size, 3, none⟩ = some (.int .i64 X.a.row) ∧ w'.cell? ⟨wk1.heap.size, 6, none⟩ = some (.int .i64 X.b.col) ∧ w'.cell? ⟨wk1.heap.size, 7, none⟩ = some (.int .i64 X.b.row) ∧ w'.cell? ⟨wk3.heap.size, 0, none⟩ = some (.int .i64 m0) ∧ w'.cell? ⟨wk3.heap.size, 1, none⟩ = some (.int .i64 m1) ∧ w'.cell? ⟨wk3.heap.size, 2, none⟩ = some (.int .i64 m2) ∧ w'.cell? ⟨wk3.heap.size, 3, none⟩ = some (.int .i64 m3)) (first | exact ⟨e_0, e_1, e_2, e_3, a_2, a_3, a_6, a_7, m_0, m_1, m_2, m_3⟩ | go_keep)
              (first
                | (go_at_call_of 25 (Value.int IntKind.i64 X.a.col); refine (unhide R1 _).mono ?_; rintro e yy ⟨rfl, zz⟩; replace A := hide (cells_nx (unhide A) zz); replace B := hide (cells_nx (unhide B) zz); replace C := hide (cells_nx (unhide C) zz); replace E := hide (cells_nx (unhide E) zz); replace G := hide (cells_nx (unhide G) zz); replace M := hide (cells_nx (unhide M) zz); replace HB := hide (below_nx (unhide HB) zz); clear zz e_0 e_1 e_2 e_3 a_0 a_1 a_2 a_3 a_4 a_5 a_6 a_7 a_8 a_9 a_10 m_0 m_1 m_2 m_3; obtain ⟨e_0, e_1, e_2, e_3⟩ := cells4 (unhide E); obtain ⟨a_0, a_1, a_2, a_3, a_4, a_5, a_6, a_7, a_8, a_9, a_10⟩ := cells11 (unhide A); obtain ⟨m_0, m_1, m_2, m_3⟩ := cells4 (unhide M))
                | (go_at_call_of 25 (Value.int IntKind.i64 X.b.col); refine (unhide R2 _).mono ?_; rintro e yy ⟨rfl, zz⟩; replace A := hide (cells_nx (unhide A) zz); replace B := hide (cells_nx (unhide B) zz); replace C := hide (cells_nx (unhide C) zz); replace E := hide (cells_nx (unhide E) zz); replace G := hide (cells_nx (unhide G) zz); replace M := hide (cells_nx (unhide M) zz); replace HB := hide (below_nx (unhide HB) zz); clear zz e_0 e_1 e_2 e_3 a_0 a_1 a_2 a_3 a_4 a_5 a_6 a_7 a_8 a_9 a_10 m_0 m_1 m_2 m_3; obtain ⟨e_0, e_1, e_2, e_3⟩ := cells4 (unhide E); obtain ⟨a_0, a_1, a_2, a_3, a_4, a_5, a_6, a_7, a_8, a_9, a_10⟩ := cells11 (unhide A); obtain ⟨m_0, m_1, m_2, m_3⟩ := cells4 (unhide M))
                | (go_at_call 22; refine (unhide R3 _).mono ?_; rintro e yy ⟨rfl, zz⟩; replace A := hide (cells_nx (unhide A) zz); replace B := hide (cells_nx (unhide B) zz); replace C := hide (cells_nx (unhide C) zz); replace E := hide (cells_nx (unhide E) zz); replace G := hide (cells_nx (unhide G) zz); replace M := hide (cells_nx (unhide M) zz); replace HB := hide (below_nx (unhide HB) zz); clear zz e_0 e_1 e_2 e_3 a_0 a_1 a_2 a_3 a_4 a_5 a_6 a_7 a_8 a_9 a_10 m_0 m_1 m_2 m_3; obtain ⟨e_0, e_1, e_2, e_3⟩ := cells4 (unhide E); obtain ⟨a_0, a_1, a_2, a_3, a_4, a_5, a_6, a_7, a_8, a_9, a_10⟩ := cells11 (unhide A); obtain ⟨m_0, m_1, m_2, m_3⟩ := cells4 (unhide M))
                | (go_at_call_of 24 (Value.int IntKind.i64 m0); refine (unhide R4 _).mono ?_; rintro e yy ⟨rfl, zz⟩; replace A := hide (cells_nx (unhide A) zz); replace B := hide (cells_nx (unhide B) zz); replace C := hide (cells_nx (unhide C) zz); replace E := hide (cells_nx (unhide E) zz); replace G := hide (cells_nx (unhide G) zz); replace M := hide (cells_nx (unhide M) zz); replace HB := hide (below_nx (unhide HB) zz); clear zz e_0 e_1 e_2 e_3 a_0 a_1 a_2 a_3 a_4 a_5 a_6 a_7 a_8 a_9 a_10 m_0 m_1 m_2 m_3; obtain ⟨e_0, e_1, e_2, e_3⟩ := cells4 (unhide E); obtain ⟨a_0, a_1, a_2, a_3, a_4, a_5, a_6, a_7, a_8, a_9, a_10⟩ := cells11 (unhide A); obtain ⟨m_0, m_1, m_2, m_3⟩ := cells4 (unhide M))
                | (go_at_call_of 24 (Value.int IntKind.i64 a0); refine (unhide R5 _).mono ?_; rintro e yy ⟨rfl, zz⟩; replace A := hide (cells_nx (unhide A) zz); replace B := hide (cells_nx (unhide B) zz); replace C := hide (cells_nx (unhide C) zz); replace E := hide (cells_nx (unhide E) zz); replace G := hide (cells_nx (unhide G) zz); replace M := hide (cells_nx (unhide M) zz); replace HB := hide (below_nx (unhide HB) zz); clear zz e_0 e_1 e_2 e_3 a_0 a_1 a_2 a_3 a_4 a_5 a_6 a_7 a_8 a_9 a_10 m_0 m_1 m_2 m_3; obtain ⟨e_0, e_1, e_2, e_3⟩ := cells4 (unhide E); obtain ⟨a_0, a_1, a_2, a_3, a_4, a_5, a_6, a_7, a_8, a_9, a_10⟩ := cells11 (unhide A); obtain ⟨m_0, m_1, m_2, m_3⟩ := cells4 (unhide M)))
            all_goals (try go_wp2_with fail)
            all_goals go_meet
            all_goals exact ⟨rfl, A, B, C, E, G, M, HB⟩
        case rest =>
          obtain ⟨rfl, A', B', C', E', G', M', HB'⟩ := hcut
          replace A := A'
          clear A'
          replace B := B'
          clear B'
          replace C := C'
          clear C'
          replace E := E'
          clear E'
          replace G := G'
          clear G'
          replace M := M'
          clear M'
          replace HB := HB'
          clear HB' R1 R2 HWK HGA HGB HGM HSM HSA OG OS ON HM1 HM2
          go_upto_region 12 with fail
          obtain ⟨a_0, a_1, a_2, a_3, a_4, a_5, a_6, a_7, a_8, a_9, a_10⟩ := cells11 (unhide A)
          obtain ⟨b_0, b_1, b_2, b_3, b_4, b_5, b_6, b_7, b_8, b_9, b_10⟩ := cells11 (unhide B)
          obtain ⟨c_0, c_1⟩ := cells2 (unhide C)
          go_wp2_with fail
          clear a_0 a_1 a_2 a_3 a_4 a_5 a_6 a_7 a_8 a_9 a_10 b_0 b_1 b_2 b_3 b_4 b_5 b_6 b_7 b_8 b_9 b_10 c_0 c_1
          obtain ⟨c2, e2⟩ : ∃ c2 : Int, bits .and .i64 c0 63 = c2 := ⟨_, rfl⟩
          obtain ⟨c3, e3⟩ : ∃ c3 : Int, bits .and .i64 c1 1023 = c3 := ⟨_, rfl⟩
          rw [e2, e3]
          clear e2 e3
          have L := hide (cells_new wc 27 #[.int .i64 c2, .int .i64 c3, .int .i64 X.a.col, .int .i64 X.a.row, .int .i64 Y.a.col, .int .i64 Y.a.row, .int .i64 X.b.col, .int .i64 X.b.row, .int .i64 Y.b.col, .int .i64 Y.b.row])
          clear A B C
          replace E := hide (cells_al (unhide E) (.cells #[.int .i64 c2, .int .i64 c3, .int .i64 X.a.col, .int .i64 X.a.row, .int .i64 Y.a.col, .int .i64 Y.a.row, .int .i64 X.b.col, .int .i64 X.b.row, .int .i64 Y.b.col, .int .i64 Y.b.row] 27))
          replace G := hide (cells_al (unhide G) (.cells #[.int .i64 c2, .int .i64 c3, .int .i64 X.a.col, .int .i64 X.a.row, .int .i64 Y.a.col, .int .i64 Y.a.row, .int .i64 X.b.col, .int .i64 X.b.row, .int .i64 Y.b.col, .int .i64 Y.b.row] 27))
          replace M := hide (cells_al (unhide M) (.cells #[.int .i64 c2, .int .i64 c3, .int .i64 X.a.col, .int .i64 X.a.row, .int .i64 Y.a.col, .int .i64 Y.a.row, .int .i64 X.b.col, .int .i64 X.b.row, .int .i64 Y.b.col, .int .i64 Y.b.row] 27))
          replace HB := hide ((unhide HB).alloc (unhide HB).size (.cells #[.int .i64 c2, .int .i64 c3, .int .i64 X.a.col, .int .i64 X.a.row, .int .i64 Y.a.col, .int .i64 Y.a.row, .int .i64 X.b.col, .int .i64 X.b.row, .int .i64 Y.b.col, .int .i64 Y.b.row] 27))
          generalize hW : wc.alloc (.cells #[.int .i64 c2, .int .i64 c3, .int .i64 X.a.col, .int .i64 X.a.row, .int .i64 Y.a.col, .int .i64 Y.a.row, .int .i64 X.b.col, .int .i64 X.b.row, .int .i64 Y.b.col, .int .i64 Y.b.row] 27) = WL at L E G M HB ⊢
          clear hW
          generalize wc.heap.size = LB at L ⊢
          go_loopw [127] (fun t wr => ∃ k : Nat, t = .int .i64 (k : Int) ∧ k ≤ 5 ∧ Hid (CellsAt wr (F) 48 #[.int .i64 a0, .int .i64 a1, .int .i64 a2, .int .i64 a3]) ∧ Hid (CellsAt wr (T) 48 #[.int .i64 b0, .int .i64 b1, .int .i64 b2, .int .i64 b3]) ∧ Hid (CellsAt wr (wk3.heap.size) 48 #[.int .i64 m0, .int .i64 m1, .int .i64 m2, .int .i64 m3]) ∧ Hid (CellsAt wr (LB) 27 #[.int .i64 c2, .int .i64 c3, .int .i64 X.a.col, .int .i64 X.a.row, .int .i64 Y.a.col, .int .i64 Y.a.row, .int .i64 X.b.col, .int .i64 X.b.row, .int .i64 Y.b.col, .int .i64 Y.b.row]) ∧ Hid (Below w.heap.size w wr)) (fun t _ => 5 - (intOf t).toNat)
          case atStart => exact ⟨0, rfl, by omega, E, G, M, L, HB⟩
          case round =>
            clear E G M L HB
            obtain ⟨k, rfl, hk, E, G, M, L, HB⟩ := hrel
            by_cases hk5 : k < 5
            · obtain ⟨u, v, q0, q1⟩ := five_at (unhide L) k hk5
              go_upto_region 15 with fail
              clear q0 q1
              have D := hide (cells_new wr 27 #[.int .i64 u, .int .i64 v])
              replace E := hide (cells_al (unhide E) (.cells #[.int .i64 u, .int .i64 v] 27))
              replace G := hide (cells_al (unhide G) (.cells #[.int .i64 u, .int .i64 v] 27))
              replace M := hide (cells_al (unhide M) (.cells #[.int .i64 u, .int .i64 v] 27))
              replace L := hide (cells_al (unhide L) (.cells #[.int .i64 u, .int .i64 v] 27))
              replace HB := hide ((unhide HB).alloc (unhide HB).size (.cells #[.int .i64 u, .int .i64 v] 27))
              generalize hW : wr.alloc (.cells #[.int .i64 u, .int .i64 v] 27) = WD at D E G M L HB ⊢
              clear hW
              generalize wr.heap.size = DB at D ⊢
              have R1 := hide (fun w => unhide HHA u v w)
              have R2 := hide (fun w => unhide HHB u v w)
              have R3 := hide (fun w => unhide HHM u v w)
              have oh := unhide OH u v
              generalize hasG a0 a1 a2 a3 u v = pa at R1 oh
              generalize hasG b0 b1 b2 b3 u v = pb at R2 oh
              generalize hasG m0 m1 m2 m3 u v = pm at R3 oh
              go_cut [145] from 128 to 144 (fun vv wx => vv = .bool false ∧ Hid (CellsAt wx (F) 48 #[.int .i64 a0, .int .i64 a1, .int .i64 a2, .int .i64 a3]) ∧ Hid (CellsAt wx (T) 48 #[.int .i64 b0, .int .i64 b1, .int .i64 b2, .int .i64 b3]) ∧ Hid (CellsAt wx (wk3.heap.size) 48 #[.int .i64 m0, .int .i64 m1, .int .i64 m2, .int .i64 m3]) ∧ Hid (CellsAt wx (LB) 27 #[.int .i64 c2, .int .i64 c3, .int .i64 X.a.col, .int .i64 X.a.row, .int .i64 Y.a.col, .int .i64 Y.a.row, .int .i64 X.b.col, .int .i64 X.b.row, .int .i64 Y.b.col, .int .i64 Y.b.row]) ∧ Hid (CellsAt wx (DB) 27 #[.int .i64 u, .int .i64 v]) ∧ Hid (Below w.heap.size w wx))
              case first =>
                cases ok
                · cases pa
                  · clear oh
                    replace E := hide (cells_drew (unhide E))
                    replace G := hide (cells_drew (unhide G))
                    replace M := hide (cells_drew (unhide M))
                    replace L := hide (cells_drew (unhide L))
                    replace D := hide (cells_drew (unhide D))
                    replace HB := hide (unhide HB).drew
                    obtain ⟨e_0, e_1, e_2, e_3⟩ := cells4 (unhide E)
                    obtain ⟨d_0, d_1⟩ := cells2 (unhide D)
                    refine wp_region_held_drew (S := (fun w' => w'.cell? ⟨F, 0, none⟩ = some (.int .i64 a0) ∧ w'.cell? ⟨F, 1, none⟩ = some (.int .i64 a1) ∧ w'.cell? ⟨F, 2, none⟩ = some (.int .i64 a2) ∧ w'.cell? ⟨F, 3, none⟩ = some (.int .i64 a3) ∧ w'.cell? ⟨DB, 0, none⟩ = some (.int .i64 u) ∧ w'.cell? ⟨DB, 1, none⟩ = some (.int .i64 v))) (by kernel_rfl) ⟨e_0, e_1, e_2, e_3, d_0, d_1⟩ (fun hHeld => ?_)
                    refine wpAnyH_take (i := 0) (oi := ({ dst := some 131, op := Op.move (Operand.tmp 14), type := 4, pos := "law.go:126", after := #[], guard := none } : Oper)) (v := .bool false) rfl (by kernel_rfl) (by kernel_rfl) (by kernel_rfl) (fun _ _ _ h => h) (Or.inl ⟨by rfl, fun w hSw => by (try dsimp only at hSw); go_simp⟩) hHeld ?_
                    (try simp only [Act.put, List.setIfInBounds_toArray, List.set_cons_zero, List.set_cons_succ])
                    refine wpAnyH_take (i := 1) (oi := ({ dst := some 132, op := Op.move (Operand.tmp 131), type := 4, pos := "law.go:126", after := #[{ on := 0, ground := Ground.data }], guard := none } : Oper)) (v := .bool false) rfl (by kernel_rfl) (by kernel_rfl) (by kernel_rfl) (fun _ _ _ h => h) (Or.inl ⟨by rfl, fun w hSw => by (try dsimp only at hSw); go_simp⟩) hHeld ?_
                    (try simp only [Act.put, List.setIfInBounds_toArray, List.set_cons_zero, List.set_cons_succ])
                    refine wpAnyH_take (i := 2) (oi := ({ dst := some 133, op := Op.load 48 (Operand.tmp 13), type := 48, pos := "law.go:126", after := #[{ on := 1, ground := Ground.guard }], guard := some (1, true) } : Oper)) (v := Go.undef) rfl (by kernel_rfl) (by kernel_rfl) (by kernel_rfl) (fun _ _ _ h => h) (Or.inr ⟨by rfl, rfl⟩) hHeld ?_
                    (try simp only [Act.put, List.setIfInBounds_toArray, List.set_cons_zero, List.set_cons_succ])
                    refine wpAnyH_take (i := 3) (oi := ({ dst := some 134, op := Op.load 27 (Operand.tmp 18), type := 27, pos := "law.go:126", after := #[{ on := 1, ground := Ground.guard }], guard := some (1, true) } : Oper)) (v := Go.undef) rfl (by kernel_rfl) (by kernel_rfl) (by kernel_rfl) (fun _ _ _ h => h) (Or.inr ⟨by rfl, rfl⟩) hHeld ?_
                    (try simp only [Act.put, List.setIfInBounds_toArray, List.set_cons_zero, List.set_cons_succ])
                    refine wpAnyH_take (i := 6) (oi := ({ dst := some 137, op := Op.load 48 (Operand.tmp 11), type := 48, pos := "law.go:126", after := #[], guard := none } : Oper)) (v := .agg #[.int .i64 a0, .int .i64 a1, .int .i64 a2, .int .i64 a3]) rfl (by kernel_rfl) (by kernel_rfl) (by kernel_rfl) (fun _ _ _ h => h) (Or.inl ⟨by rfl, fun w hSw => by (try dsimp only at hSw); go_simp⟩) hHeld ?_
                    (try simp only [Act.put, List.setIfInBounds_toArray, List.set_cons_zero, List.set_cons_succ])
                    refine wpAnyH_take (i := 7) (oi := ({ dst := some 138, op := Op.load 27 (Operand.tmp 18), type := 27, pos := "law.go:126", after := #[], guard := none } : Oper)) (v := .agg #[.int .i64 u, .int .i64 v]) rfl (by kernel_rfl) (by kernel_rfl) (by kernel_rfl) (fun _ _ _ h => h) (Or.inl ⟨by rfl, fun w hSw => by (try dsimp only at hSw); go_simp⟩) hHeld ?_
                    (try simp only [Act.put, List.setIfInBounds_toArray, List.set_cons_zero, List.set_cons_succ])
                    refine wpAnyH_ready (rs := [4]) (by kernel_rfl) (by simp) ?_
                    refine AllReadyH.cons (o := ({ dst := some 135, op := Op.call { callee := Callee.value (Operand.func 25), args := #[Operand.tmp 133, Operand.tmp 134], argTypes := #[48, 27] }, type := 4, pos := "law.go:126", after := #[{ on := 2, ground := Ground.data }, { on := 3, ground := Ground.data }, { on := 1, ground := Ground.chain }, { on := 1, ground := Ground.guard }], guard := some (1, true) } : Oper)) rfl (fun K hK => ?_) AllReadyH.nil
                    go_simp
                    refine hK.out _ _ ⟨e_0, e_1, e_2, e_3, d_0, d_1⟩ (fun hHeld2 => ?_)
                    clear hK K hHeld
                    have hHeld := hHeld2
                    clear hHeld2
                    (try simp only [Act.put, List.setIfInBounds_toArray, List.set_cons_zero, List.set_cons_succ])
                    refine wpAnyH_take (i := 5) (oi := ({ dst := some 136, op := Op.pick (Operand.tmp 132) (Operand.tmp 135) (Operand.const (Value.bool false)), type := 4, pos := "law.go:126", after := #[{ on := 1, ground := Ground.data }, { on := 4, ground := Ground.data }], guard := none } : Oper)) (v := .bool false) rfl (by kernel_rfl) (by kernel_rfl) (by kernel_rfl) (fun _ _ _ h => h) (Or.inl ⟨by rfl, fun w hSw => by (try dsimp only at hSw); go_simp⟩) hHeld ?_
                    (try simp only [Act.put, List.setIfInBounds_toArray, List.set_cons_zero, List.set_cons_succ])
                    refine wpAnyH_ready (rs := [8]) (by kernel_rfl) (by simp) ?_
                    refine AllReadyH.cons (o := ({ dst := some 139, op := Op.call { callee := Callee.value (Operand.func 25), args := #[Operand.tmp 137, Operand.tmp 138], argTypes := #[48, 27] }, type := 4, pos := "law.go:126", after := #[{ on := 6, ground := Ground.data }, { on := 7, ground := Ground.data }, { on := 4, ground := Ground.chain }], guard := none } : Oper)) rfl (fun K hK => ?_) AllReadyH.nil
                    go_simp
                    refine (unhide R1 _).mono ?_
                    rintro e yy ⟨rfl, zz⟩
                    replace E := hide (cells_nx (unhide E) zz)
                    replace G := hide (cells_nx (unhide G) zz)
                    replace M := hide (cells_nx (unhide M) zz)
                    replace L := hide (cells_nx (unhide L) zz)
                    replace D := hide (cells_nx (unhide D) zz)
                    replace HB := hide (below_nx (unhide HB) zz)
                    clear zz
                    clear e_0 e_1 e_2 e_3 d_0 d_1
                    obtain ⟨e_0, e_1, e_2, e_3⟩ := cells4 (unhide E)
                    obtain ⟨d_0, d_1⟩ := cells2 (unhide D)
                    go_wp2_with fail
                    refine hK.out _ _ ⟨e_0, e_1, e_2, e_3, d_0, d_1⟩ (fun hHeld2 => ?_)
                    clear hK K hHeld
                    have hHeld := hHeld2
                    clear hHeld2
                    (try simp only [Act.put, List.setIfInBounds_toArray, List.set_cons_zero, List.set_cons_succ])
                    refine wpAnyH_take (i := 9) (oi := ({ dst := some 140, op := Op.move (Operand.tmp 139), type := 4, pos := "law.go:126", after := #[{ on := 8, ground := Ground.data }, { on := 8, ground := Ground.chain }], guard := none } : Oper)) (v := .bool false) rfl (by kernel_rfl) (by kernel_rfl) (by kernel_rfl) (fun _ _ _ h => h) (Or.inl ⟨by rfl, fun w hSw => by (try dsimp only at hSw); go_simp⟩) hHeld ?_
                    (try simp only [Act.put, List.setIfInBounds_toArray, List.set_cons_zero, List.set_cons_succ])
                    refine wpAnyH_take (i := 10) (oi := ({ dst := some 141, op := Op.load 48 (Operand.tmp 12), type := 48, pos := "law.go:126", after := #[{ on := 9, ground := Ground.guard }], guard := some (9, true) } : Oper)) (v := Go.undef) rfl (by kernel_rfl) (by kernel_rfl) (by kernel_rfl) (fun _ _ _ h => h) (Or.inr ⟨by rfl, rfl⟩) hHeld ?_
                    (try simp only [Act.put, List.setIfInBounds_toArray, List.set_cons_zero, List.set_cons_succ])
                    refine wpAnyH_take (i := 11) (oi := ({ dst := some 142, op := Op.load 27 (Operand.tmp 18), type := 27, pos := "law.go:126", after := #[{ on := 9, ground := Ground.guard }], guard := some (9, true) } : Oper)) (v := Go.undef) rfl (by kernel_rfl) (by kernel_rfl) (by kernel_rfl) (fun _ _ _ h => h) (Or.inr ⟨by rfl, rfl⟩) hHeld ?_
                    (try simp only [Act.put, List.setIfInBounds_toArray, List.set_cons_zero, List.set_cons_succ])
                    refine wpAnyH_ready (rs := [12]) (by kernel_rfl) (by simp) ?_
                    refine AllReadyH.cons (o := ({ dst := some 143, op := Op.call { callee := Callee.value (Operand.func 25), args := #[Operand.tmp 141, Operand.tmp 142], argTypes := #[48, 27] }, type := 4, pos := "law.go:126", after := #[{ on := 10, ground := Ground.data }, { on := 11, ground := Ground.data }, { on := 9, ground := Ground.chain }, { on := 9, ground := Ground.guard }], guard := some (9, true) } : Oper)) rfl (fun K hK => ?_) AllReadyH.nil
                    go_simp
                    refine hK.out _ _ ⟨e_0, e_1, e_2, e_3, d_0, d_1⟩ (fun hHeld2 => ?_)
                    clear hK K hHeld
                    have hHeld := hHeld2
                    clear hHeld2
                    (try simp only [Act.put, List.setIfInBounds_toArray, List.set_cons_zero, List.set_cons_succ])
                    refine wpAnyH_take (i := 13) (oi := ({ dst := some 144, op := Op.pick (Operand.tmp 140) (Operand.tmp 143) (Operand.const (Value.bool false)), type := 4, pos := "law.go:126", after := #[{ on := 9, ground := Ground.data }, { on := 12, ground := Ground.data }], guard := none } : Oper)) (v := .bool false) rfl (by kernel_rfl) (by kernel_rfl) (by kernel_rfl) (fun _ _ _ h => h) (Or.inl ⟨by rfl, fun w hSw => by (try dsimp only at hSw); go_simp⟩) hHeld ?_
                    (try simp only [Act.put, List.setIfInBounds_toArray, List.set_cons_zero, List.set_cons_succ])
                    refine wpAnyH_take (i := 14) (oi := ({ dst := some 145, op := Op.binOp BinOp.neq 4 (Operand.tmp 136) (Operand.tmp 144) 4, type := 4, pos := "law.go:126", after := #[{ on := 5, ground := Ground.data }, { on := 13, ground := Ground.data }], guard := none } : Oper)) (v := .bool false) rfl (by kernel_rfl) (by kernel_rfl) (by kernel_rfl) (fun _ _ _ h => h) (Or.inl ⟨by rfl, fun w hSw => by (try dsimp only at hSw); go_simp⟩) hHeld ?_
                    (try simp only [Act.put, List.setIfInBounds_toArray, List.set_cons_zero, List.set_cons_succ])
                    refine wpAnyH_done (by kernel_rfl) ?_ _
                    (try go_wp2_with fail)
                    go_meet
                    exact ⟨rfl, E, G, M, L, D, HB⟩
                  · have e : pb = false := oh.symm
                    subst e
                    clear oh
                    replace E := hide (cells_drew (unhide E))
                    replace G := hide (cells_drew (unhide G))
                    replace M := hide (cells_drew (unhide M))
                    replace L := hide (cells_drew (unhide L))
                    replace D := hide (cells_drew (unhide D))
                    replace HB := hide (unhide HB).drew
                    obtain ⟨e_0, e_1, e_2, e_3⟩ := cells4 (unhide E)
                    obtain ⟨g_0, g_1, g_2, g_3⟩ := cells4 (unhide G)
                    obtain ⟨d_0, d_1⟩ := cells2 (unhide D)
                    refine wp_region_held_drew (S := (fun w' => w'.cell? ⟨F, 0, none⟩ = some (.int .i64 a0) ∧ w'.cell? ⟨F, 1, none⟩ = some (.int .i64 a1) ∧ w'.cell? ⟨F, 2, none⟩ = some (.int .i64 a2) ∧ w'.cell? ⟨F, 3, none⟩ = some (.int .i64 a3) ∧ w'.cell? ⟨T, 0, none⟩ = some (.int .i64 b0) ∧ w'.cell? ⟨T, 1, none⟩ = some (.int .i64 b1) ∧ w'.cell? ⟨T, 2, none⟩ = some (.int .i64 b2) ∧ w'.cell? ⟨T, 3, none⟩ = some (.int .i64 b3) ∧ w'.cell? ⟨DB, 0, none⟩ = some (.int .i64 u) ∧ w'.cell? ⟨DB, 1, none⟩ = some (.int .i64 v))) (by kernel_rfl) ⟨e_0, e_1, e_2, e_3, g_0, g_1, g_2, g_3, d_0, d_1⟩ (fun hHeld => ?_)
                    refine wpAnyH_take (i := 0) (oi := ({ dst := some 131, op := Op.move (Operand.tmp 14), type := 4, pos := "law.go:126", after := #[], guard := none } : Oper)) (v := .bool false) rfl (by kernel_rfl) (by kernel_rfl) (by kernel_rfl) (fun _ _ _ h => h) (Or.inl ⟨by rfl, fun w hSw => by (try dsimp only at hSw); go_simp⟩) hHeld ?_
                    (try simp only [Act.put, List.setIfInBounds_toArray, List.set_cons_zero, List.set_cons_succ])
                    refine wpAnyH_take (i := 1) (oi := ({ dst := some 132, op := Op.move (Operand.tmp 131), type := 4, pos := "law.go:126", after := #[{ on := 0, ground := Ground.data }], guard := none } : Oper)) (v := .bool false) rfl (by kernel_rfl) (by kernel_rfl) (by kernel_rfl) (fun _ _ _ h => h) (Or.inl ⟨by rfl, fun w hSw => by (try dsimp only at hSw); go_simp⟩) hHeld ?_
                    (try simp only [Act.put, List.setIfInBounds_toArray, List.set_cons_zero, List.set_cons_succ])
                    refine wpAnyH_take (i := 2) (oi := ({ dst := some 133, op := Op.load 48 (Operand.tmp 13), type := 48, pos := "law.go:126", after := #[{ on := 1, ground := Ground.guard }], guard := some (1, true) } : Oper)) (v := Go.undef) rfl (by kernel_rfl) (by kernel_rfl) (by kernel_rfl) (fun _ _ _ h => h) (Or.inr ⟨by rfl, rfl⟩) hHeld ?_
                    (try simp only [Act.put, List.setIfInBounds_toArray, List.set_cons_zero, List.set_cons_succ])
                    refine wpAnyH_take (i := 3) (oi := ({ dst := some 134, op := Op.load 27 (Operand.tmp 18), type := 27, pos := "law.go:126", after := #[{ on := 1, ground := Ground.guard }], guard := some (1, true) } : Oper)) (v := Go.undef) rfl (by kernel_rfl) (by kernel_rfl) (by kernel_rfl) (fun _ _ _ h => h) (Or.inr ⟨by rfl, rfl⟩) hHeld ?_
                    (try simp only [Act.put, List.setIfInBounds_toArray, List.set_cons_zero, List.set_cons_succ])
                    refine wpAnyH_take (i := 6) (oi := ({ dst := some 137, op := Op.load 48 (Operand.tmp 11), type := 48, pos := "law.go:126", after := #[], guard := none } : Oper)) (v := .agg #[.int .i64 a0, .int .i64 a1, .int .i64 a2, .int .i64 a3]) rfl (by kernel_rfl) (by kernel_rfl) (by kernel_rfl) (fun _ _ _ h => h) (Or.inl ⟨by rfl, fun w hSw => by (try dsimp only at hSw); go_simp⟩) hHeld ?_
                    (try simp only [Act.put, List.setIfInBounds_toArray, List.set_cons_zero, List.set_cons_succ])
                    refine wpAnyH_take (i := 7) (oi := ({ dst := some 138, op := Op.load 27 (Operand.tmp 18), type := 27, pos := "law.go:126", after := #[], guard := none } : Oper)) (v := .agg #[.int .i64 u, .int .i64 v]) rfl (by kernel_rfl) (by kernel_rfl) (by kernel_rfl) (fun _ _ _ h => h) (Or.inl ⟨by rfl, fun w hSw => by (try dsimp only at hSw); go_simp⟩) hHeld ?_
                    (try simp only [Act.put, List.setIfInBounds_toArray, List.set_cons_zero, List.set_cons_succ])
                    refine wpAnyH_ready (rs := [4]) (by kernel_rfl) (by simp) ?_
                    refine AllReadyH.cons (o := ({ dst := some 135, op := Op.call { callee := Callee.value (Operand.func 25), args := #[Operand.tmp 133, Operand.tmp 134], argTypes := #[48, 27] }, type := 4, pos := "law.go:126", after := #[{ on := 2, ground := Ground.data }, { on := 3, ground := Ground.data }, { on := 1, ground := Ground.chain }, { on := 1, ground := Ground.guard }], guard := some (1, true) } : Oper)) rfl (fun K hK => ?_) AllReadyH.nil
                    go_simp
                    refine hK.out _ _ ⟨e_0, e_1, e_2, e_3, g_0, g_1, g_2, g_3, d_0, d_1⟩ (fun hHeld2 => ?_)
                    clear hK K hHeld
                    have hHeld := hHeld2
                    clear hHeld2
                    (try simp only [Act.put, List.setIfInBounds_toArray, List.set_cons_zero, List.set_cons_succ])
                    refine wpAnyH_take (i := 5) (oi := ({ dst := some 136, op := Op.pick (Operand.tmp 132) (Operand.tmp 135) (Operand.const (Value.bool false)), type := 4, pos := "law.go:126", after := #[{ on := 1, ground := Ground.data }, { on := 4, ground := Ground.data }], guard := none } : Oper)) (v := .bool false) rfl (by kernel_rfl) (by kernel_rfl) (by kernel_rfl) (fun _ _ _ h => h) (Or.inl ⟨by rfl, fun w hSw => by (try dsimp only at hSw); go_simp⟩) hHeld ?_
                    (try simp only [Act.put, List.setIfInBounds_toArray, List.set_cons_zero, List.set_cons_succ])
                    refine wpAnyH_ready (rs := [8]) (by kernel_rfl) (by simp) ?_
                    refine AllReadyH.cons (o := ({ dst := some 139, op := Op.call { callee := Callee.value (Operand.func 25), args := #[Operand.tmp 137, Operand.tmp 138], argTypes := #[48, 27] }, type := 4, pos := "law.go:126", after := #[{ on := 6, ground := Ground.data }, { on := 7, ground := Ground.data }, { on := 4, ground := Ground.chain }], guard := none } : Oper)) rfl (fun K hK => ?_) AllReadyH.nil
                    go_simp
                    refine (unhide R1 _).mono ?_
                    rintro e yy ⟨rfl, zz⟩
                    replace E := hide (cells_nx (unhide E) zz)
                    replace G := hide (cells_nx (unhide G) zz)
                    replace M := hide (cells_nx (unhide M) zz)
                    replace L := hide (cells_nx (unhide L) zz)
                    replace D := hide (cells_nx (unhide D) zz)
                    replace HB := hide (below_nx (unhide HB) zz)
                    clear zz
                    clear e_0 e_1 e_2 e_3 g_0 g_1 g_2 g_3 d_0 d_1
                    obtain ⟨e_0, e_1, e_2, e_3⟩ := cells4 (unhide E)
                    obtain ⟨g_0, g_1, g_2, g_3⟩ := cells4 (unhide G)
                    obtain ⟨d_0, d_1⟩ := cells2 (unhide D)
                    go_wp2_with fail
                    refine hK.out _ _ ⟨e_0, e_1, e_2, e_3, g_0, g_1, g_2, g_3, d_0, d_1⟩ (fun hHeld2 => ?_)
                    clear hK K hHeld
                    have hHeld := hHeld2
                    clear hHeld2
                    (try simp only [Act.put, List.setIfInBounds_toArray, List.set_cons_zero, List.set_cons_succ])
                    refine wpAnyH_take (i := 9) (oi := ({ dst := some 140, op := Op.move (Operand.tmp 139), type := 4, pos := "law.go:126", after := #[{ on := 8, ground := Ground.data }, { on := 8, ground := Ground.chain }], guard := none } : Oper)) (v := .bool true) rfl (by kernel_rfl) (by kernel_rfl) (by kernel_rfl) (fun _ _ _ h => h) (Or.inl ⟨by rfl, fun w hSw => by (try dsimp only at hSw); go_simp⟩) hHeld ?_
                    (try simp only [Act.put, List.setIfInBounds_toArray, List.set_cons_zero, List.set_cons_succ])
                    refine wpAnyH_take (i := 10) (oi := ({ dst := some 141, op := Op.load 48 (Operand.tmp 12), type := 48, pos := "law.go:126", after := #[{ on := 9, ground := Ground.guard }], guard := some (9, true) } : Oper)) (v := .agg #[.int .i64 b0, .int .i64 b1, .int .i64 b2, .int .i64 b3]) rfl (by kernel_rfl) (by kernel_rfl) (by kernel_rfl) (fun _ _ _ h => h) (Or.inl ⟨by rfl, fun w hSw => by (try dsimp only at hSw); go_simp⟩) hHeld ?_
                    (try simp only [Act.put, List.setIfInBounds_toArray, List.set_cons_zero, List.set_cons_succ])
                    refine wpAnyH_take (i := 11) (oi := ({ dst := some 142, op := Op.load 27 (Operand.tmp 18), type := 27, pos := "law.go:126", after := #[{ on := 9, ground := Ground.guard }], guard := some (9, true) } : Oper)) (v := .agg #[.int .i64 u, .int .i64 v]) rfl (by kernel_rfl) (by kernel_rfl) (by kernel_rfl) (fun _ _ _ h => h) (Or.inl ⟨by rfl, fun w hSw => by (try dsimp only at hSw); go_simp⟩) hHeld ?_
                    (try simp only [Act.put, List.setIfInBounds_toArray, List.set_cons_zero, List.set_cons_succ])
                    refine wpAnyH_ready (rs := [12]) (by kernel_rfl) (by simp) ?_
                    refine AllReadyH.cons (o := ({ dst := some 143, op := Op.call { callee := Callee.value (Operand.func 25), args := #[Operand.tmp 141, Operand.tmp 142], argTypes := #[48, 27] }, type := 4, pos := "law.go:126", after := #[{ on := 10, ground := Ground.data }, { on := 11, ground := Ground.data }, { on := 9, ground := Ground.chain }, { on := 9, ground := Ground.guard }], guard := some (9, true) } : Oper)) rfl (fun K hK => ?_) AllReadyH.nil
                    go_simp
                    refine (unhide R2 _).mono ?_
                    rintro e yy ⟨rfl, zz⟩
                    replace E := hide (cells_nx (unhide E) zz)
                    replace G := hide (cells_nx (unhide G) zz)
                    replace M := hide (cells_nx (unhide M) zz)
                    replace L := hide (cells_nx (unhide L) zz)
                    replace D := hide (cells_nx (unhide D) zz)
                    replace HB := hide (below_nx (unhide HB) zz)
                    clear zz
                    clear e_0 e_1 e_2 e_3 g_0 g_1 g_2 g_3 d_0 d_1
                    obtain ⟨e_0, e_1, e_2, e_3⟩ := cells4 (unhide E)
                    obtain ⟨g_0, g_1, g_2, g_3⟩ := cells4 (unhide G)
                    obtain ⟨d_0, d_1⟩ := cells2 (unhide D)
                    go_wp2_with fail
                    refine hK.out _ _ ⟨e_0, e_1, e_2, e_3, g_0, g_1, g_2, g_3, d_0, d_1⟩ (fun hHeld2 => ?_)
                    clear hK K hHeld
                    have hHeld := hHeld2
                    clear hHeld2
                    (try simp only [Act.put, List.setIfInBounds_toArray, List.set_cons_zero, List.set_cons_succ])
                    refine wpAnyH_take (i := 13) (oi := ({ dst := some 144, op := Op.pick (Operand.tmp 140) (Operand.tmp 143) (Operand.const (Value.bool false)), type := 4, pos := "law.go:126", after := #[{ on := 9, ground := Ground.data }, { on := 12, ground := Ground.data }], guard := none } : Oper)) (v := .bool false) rfl (by kernel_rfl) (by kernel_rfl) (by kernel_rfl) (fun _ _ _ h => h) (Or.inl ⟨by rfl, fun w hSw => by (try dsimp only at hSw); go_simp⟩) hHeld ?_
                    (try simp only [Act.put, List.setIfInBounds_toArray, List.set_cons_zero, List.set_cons_succ])
                    refine wpAnyH_take (i := 14) (oi := ({ dst := some 145, op := Op.binOp BinOp.neq 4 (Operand.tmp 136) (Operand.tmp 144) 4, type := 4, pos := "law.go:126", after := #[{ on := 5, ground := Ground.data }, { on := 13, ground := Ground.data }], guard := none } : Oper)) (v := .bool false) rfl (by kernel_rfl) (by kernel_rfl) (by kernel_rfl) (fun _ _ _ h => h) (Or.inl ⟨by rfl, fun w hSw => by (try dsimp only at hSw); go_simp⟩) hHeld ?_
                    (try simp only [Act.put, List.setIfInBounds_toArray, List.set_cons_zero, List.set_cons_succ])
                    refine wpAnyH_done (by kernel_rfl) ?_ _
                    (try go_wp2_with fail)
                    go_meet
                    exact ⟨rfl, E, G, M, L, D, HB⟩
                · cases pa
                  · have e : pm = false := oh
                    subst e
                    clear oh
                    replace E := hide (cells_drew (unhide E))
                    replace G := hide (cells_drew (unhide G))
                    replace M := hide (cells_drew (unhide M))
                    replace L := hide (cells_drew (unhide L))
                    replace D := hide (cells_drew (unhide D))
                    replace HB := hide (unhide HB).drew
                    obtain ⟨e_0, e_1, e_2, e_3⟩ := cells4 (unhide E)
                    obtain ⟨m_0, m_1, m_2, m_3⟩ := cells4 (unhide M)
                    obtain ⟨d_0, d_1⟩ := cells2 (unhide D)
                    refine wp_region_held_drew (S := (fun w' => w'.cell? ⟨F, 0, none⟩ = some (.int .i64 a0) ∧ w'.cell? ⟨F, 1, none⟩ = some (.int .i64 a1) ∧ w'.cell? ⟨F, 2, none⟩ = some (.int .i64 a2) ∧ w'.cell? ⟨F, 3, none⟩ = some (.int .i64 a3) ∧ w'.cell? ⟨wk3.heap.size, 0, none⟩ = some (.int .i64 m0) ∧ w'.cell? ⟨wk3.heap.size, 1, none⟩ = some (.int .i64 m1) ∧ w'.cell? ⟨wk3.heap.size, 2, none⟩ = some (.int .i64 m2) ∧ w'.cell? ⟨wk3.heap.size, 3, none⟩ = some (.int .i64 m3) ∧ w'.cell? ⟨DB, 0, none⟩ = some (.int .i64 u) ∧ w'.cell? ⟨DB, 1, none⟩ = some (.int .i64 v))) (by kernel_rfl) ⟨e_0, e_1, e_2, e_3, m_0, m_1, m_2, m_3, d_0, d_1⟩ (fun hHeld => ?_)
                    refine wpAnyH_take (i := 0) (oi := ({ dst := some 131, op := Op.move (Operand.tmp 14), type := 4, pos := "law.go:126", after := #[], guard := none } : Oper)) (v := .bool true) rfl (by kernel_rfl) (by kernel_rfl) (by kernel_rfl) (fun _ _ _ h => h) (Or.inl ⟨by rfl, fun w hSw => by (try dsimp only at hSw); go_simp⟩) hHeld ?_
                    (try simp only [Act.put, List.setIfInBounds_toArray, List.set_cons_zero, List.set_cons_succ])
                    refine wpAnyH_take (i := 1) (oi := ({ dst := some 132, op := Op.move (Operand.tmp 131), type := 4, pos := "law.go:126", after := #[{ on := 0, ground := Ground.data }], guard := none } : Oper)) (v := .bool true) rfl (by kernel_rfl) (by kernel_rfl) (by kernel_rfl) (fun _ _ _ h => h) (Or.inl ⟨by rfl, fun w hSw => by (try dsimp only at hSw); go_simp⟩) hHeld ?_
                    (try simp only [Act.put, List.setIfInBounds_toArray, List.set_cons_zero, List.set_cons_succ])
                    refine wpAnyH_take (i := 2) (oi := ({ dst := some 133, op := Op.load 48 (Operand.tmp 13), type := 48, pos := "law.go:126", after := #[{ on := 1, ground := Ground.guard }], guard := some (1, true) } : Oper)) (v := .agg #[.int .i64 m0, .int .i64 m1, .int .i64 m2, .int .i64 m3]) rfl (by kernel_rfl) (by kernel_rfl) (by kernel_rfl) (fun _ _ _ h => h) (Or.inl ⟨by rfl, fun w hSw => by (try dsimp only at hSw); go_simp⟩) hHeld ?_
                    (try simp only [Act.put, List.setIfInBounds_toArray, List.set_cons_zero, List.set_cons_succ])
                    refine wpAnyH_take (i := 3) (oi := ({ dst := some 134, op := Op.load 27 (Operand.tmp 18), type := 27, pos := "law.go:126", after := #[{ on := 1, ground := Ground.guard }], guard := some (1, true) } : Oper)) (v := .agg #[.int .i64 u, .int .i64 v]) rfl (by kernel_rfl) (by kernel_rfl) (by kernel_rfl) (fun _ _ _ h => h) (Or.inl ⟨by rfl, fun w hSw => by (try dsimp only at hSw); go_simp⟩) hHeld ?_
                    (try simp only [Act.put, List.setIfInBounds_toArray, List.set_cons_zero, List.set_cons_succ])
                    refine wpAnyH_take (i := 6) (oi := ({ dst := some 137, op := Op.load 48 (Operand.tmp 11), type := 48, pos := "law.go:126", after := #[], guard := none } : Oper)) (v := .agg #[.int .i64 a0, .int .i64 a1, .int .i64 a2, .int .i64 a3]) rfl (by kernel_rfl) (by kernel_rfl) (by kernel_rfl) (fun _ _ _ h => h) (Or.inl ⟨by rfl, fun w hSw => by (try dsimp only at hSw); go_simp⟩) hHeld ?_
                    (try simp only [Act.put, List.setIfInBounds_toArray, List.set_cons_zero, List.set_cons_succ])
                    refine wpAnyH_take (i := 7) (oi := ({ dst := some 138, op := Op.load 27 (Operand.tmp 18), type := 27, pos := "law.go:126", after := #[], guard := none } : Oper)) (v := .agg #[.int .i64 u, .int .i64 v]) rfl (by kernel_rfl) (by kernel_rfl) (by kernel_rfl) (fun _ _ _ h => h) (Or.inl ⟨by rfl, fun w hSw => by (try dsimp only at hSw); go_simp⟩) hHeld ?_
                    (try simp only [Act.put, List.setIfInBounds_toArray, List.set_cons_zero, List.set_cons_succ])
                    refine wpAnyH_ready (rs := [4]) (by kernel_rfl) (by simp) ?_
                    refine AllReadyH.cons (o := ({ dst := some 135, op := Op.call { callee := Callee.value (Operand.func 25), args := #[Operand.tmp 133, Operand.tmp 134], argTypes := #[48, 27] }, type := 4, pos := "law.go:126", after := #[{ on := 2, ground := Ground.data }, { on := 3, ground := Ground.data }, { on := 1, ground := Ground.chain }, { on := 1, ground := Ground.guard }], guard := some (1, true) } : Oper)) rfl (fun K hK => ?_) AllReadyH.nil
                    go_simp
                    refine (unhide R3 _).mono ?_
                    rintro e yy ⟨rfl, zz⟩
                    replace E := hide (cells_nx (unhide E) zz)
                    replace G := hide (cells_nx (unhide G) zz)
                    replace M := hide (cells_nx (unhide M) zz)
                    replace L := hide (cells_nx (unhide L) zz)
                    replace D := hide (cells_nx (unhide D) zz)
                    replace HB := hide (below_nx (unhide HB) zz)
                    clear zz
                    clear e_0 e_1 e_2 e_3 m_0 m_1 m_2 m_3 d_0 d_1
                    obtain ⟨e_0, e_1, e_2, e_3⟩ := cells4 (unhide E)
                    obtain ⟨m_0, m_1, m_2, m_3⟩ := cells4 (unhide M)
                    obtain ⟨d_0, d_1⟩ := cells2 (unhide D)
                    go_wp2_with fail
                    refine hK.out _ _ ⟨e_0, e_1, e_2, e_3, m_0, m_1, m_2, m_3, d_0, d_1⟩ (fun hHeld2 => ?_)
                    clear hK K hHeld
                    have hHeld := hHeld2
                    clear hHeld2
                    (try simp only [Act.put, List.setIfInBounds_toArray, List.set_cons_zero, List.set_cons_succ])
                    refine wpAnyH_take (i := 5) (oi := ({ dst := some 136, op := Op.pick (Operand.tmp 132) (Operand.tmp 135) (Operand.const (Value.bool false)), type := 4, pos := "law.go:126", after := #[{ on := 1, ground := Ground.data }, { on := 4, ground := Ground.data }], guard := none } : Oper)) (v := .bool false) rfl (by kernel_rfl) (by kernel_rfl) (by kernel_rfl) (fun _ _ _ h => h) (Or.inl ⟨by rfl, fun w hSw => by (try dsimp only at hSw); go_simp⟩) hHeld ?_
                    (try simp only [Act.put, List.setIfInBounds_toArray, List.set_cons_zero, List.set_cons_succ])
                    refine wpAnyH_ready (rs := [8]) (by kernel_rfl) (by simp) ?_
                    refine AllReadyH.cons (o := ({ dst := some 139, op := Op.call { callee := Callee.value (Operand.func 25), args := #[Operand.tmp 137, Operand.tmp 138], argTypes := #[48, 27] }, type := 4, pos := "law.go:126", after := #[{ on := 6, ground := Ground.data }, { on := 7, ground := Ground.data }, { on := 4, ground := Ground.chain }], guard := none } : Oper)) rfl (fun K hK => ?_) AllReadyH.nil
                    go_simp
                    refine (unhide R1 _).mono ?_
                    rintro e yy ⟨rfl, zz⟩
                    replace E := hide (cells_nx (unhide E) zz)
                    replace G := hide (cells_nx (unhide G) zz)
                    replace M := hide (cells_nx (unhide M) zz)
                    replace L := hide (cells_nx (unhide L) zz)
                    replace D := hide (cells_nx (unhide D) zz)
                    replace HB := hide (below_nx (unhide HB) zz)
                    clear zz
                    clear e_0 e_1 e_2 e_3 m_0 m_1 m_2 m_3 d_0 d_1
                    obtain ⟨e_0, e_1, e_2, e_3⟩ := cells4 (unhide E)
                    obtain ⟨m_0, m_1, m_2, m_3⟩ := cells4 (unhide M)
                    obtain ⟨d_0, d_1⟩ := cells2 (unhide D)
                    go_wp2_with fail
                    refine hK.out _ _ ⟨e_0, e_1, e_2, e_3, m_0, m_1, m_2, m_3, d_0, d_1⟩ (fun hHeld2 => ?_)
                    clear hK K hHeld
                    have hHeld := hHeld2
                    clear hHeld2
                    (try simp only [Act.put, List.setIfInBounds_toArray, List.set_cons_zero, List.set_cons_succ])
                    refine wpAnyH_take (i := 9) (oi := ({ dst := some 140, op := Op.move (Operand.tmp 139), type := 4, pos := "law.go:126", after := #[{ on := 8, ground := Ground.data }, { on := 8, ground := Ground.chain }], guard := none } : Oper)) (v := .bool false) rfl (by kernel_rfl) (by kernel_rfl) (by kernel_rfl) (fun _ _ _ h => h) (Or.inl ⟨by rfl, fun w hSw => by (try dsimp only at hSw); go_simp⟩) hHeld ?_
                    (try simp only [Act.put, List.setIfInBounds_toArray, List.set_cons_zero, List.set_cons_succ])
                    refine wpAnyH_take (i := 10) (oi := ({ dst := some 141, op := Op.load 48 (Operand.tmp 12), type := 48, pos := "law.go:126", after := #[{ on := 9, ground := Ground.guard }], guard := some (9, true) } : Oper)) (v := Go.undef) rfl (by kernel_rfl) (by kernel_rfl) (by kernel_rfl) (fun _ _ _ h => h) (Or.inr ⟨by rfl, rfl⟩) hHeld ?_
                    (try simp only [Act.put, List.setIfInBounds_toArray, List.set_cons_zero, List.set_cons_succ])
                    refine wpAnyH_take (i := 11) (oi := ({ dst := some 142, op := Op.load 27 (Operand.tmp 18), type := 27, pos := "law.go:126", after := #[{ on := 9, ground := Ground.guard }], guard := some (9, true) } : Oper)) (v := Go.undef) rfl (by kernel_rfl) (by kernel_rfl) (by kernel_rfl) (fun _ _ _ h => h) (Or.inr ⟨by rfl, rfl⟩) hHeld ?_
                    (try simp only [Act.put, List.setIfInBounds_toArray, List.set_cons_zero, List.set_cons_succ])
                    refine wpAnyH_ready (rs := [12]) (by kernel_rfl) (by simp) ?_
                    refine AllReadyH.cons (o := ({ dst := some 143, op := Op.call { callee := Callee.value (Operand.func 25), args := #[Operand.tmp 141, Operand.tmp 142], argTypes := #[48, 27] }, type := 4, pos := "law.go:126", after := #[{ on := 10, ground := Ground.data }, { on := 11, ground := Ground.data }, { on := 9, ground := Ground.chain }, { on := 9, ground := Ground.guard }], guard := some (9, true) } : Oper)) rfl (fun K hK => ?_) AllReadyH.nil
                    go_simp
                    refine hK.out _ _ ⟨e_0, e_1, e_2, e_3, m_0, m_1, m_2, m_3, d_0, d_1⟩ (fun hHeld2 => ?_)
                    clear hK K hHeld
                    have hHeld := hHeld2
                    clear hHeld2
                    (try simp only [Act.put, List.setIfInBounds_toArray, List.set_cons_zero, List.set_cons_succ])
                    refine wpAnyH_take (i := 13) (oi := ({ dst := some 144, op := Op.pick (Operand.tmp 140) (Operand.tmp 143) (Operand.const (Value.bool false)), type := 4, pos := "law.go:126", after := #[{ on := 9, ground := Ground.data }, { on := 12, ground := Ground.data }], guard := none } : Oper)) (v := .bool false) rfl (by kernel_rfl) (by kernel_rfl) (by kernel_rfl) (fun _ _ _ h => h) (Or.inl ⟨by rfl, fun w hSw => by (try dsimp only at hSw); go_simp⟩) hHeld ?_
                    (try simp only [Act.put, List.setIfInBounds_toArray, List.set_cons_zero, List.set_cons_succ])
                    refine wpAnyH_take (i := 14) (oi := ({ dst := some 145, op := Op.binOp BinOp.neq 4 (Operand.tmp 136) (Operand.tmp 144) 4, type := 4, pos := "law.go:126", after := #[{ on := 5, ground := Ground.data }, { on := 13, ground := Ground.data }], guard := none } : Oper)) (v := .bool false) rfl (by kernel_rfl) (by kernel_rfl) (by kernel_rfl) (fun _ _ _ h => h) (Or.inl ⟨by rfl, fun w hSw => by (try dsimp only at hSw); go_simp⟩) hHeld ?_
                    (try simp only [Act.put, List.setIfInBounds_toArray, List.set_cons_zero, List.set_cons_succ])
                    refine wpAnyH_done (by kernel_rfl) ?_ _
                    (try go_wp2_with fail)
                    go_meet
                    exact ⟨rfl, E, G, M, L, D, HB⟩
                  · have e : pm = pb := oh
                    subst e
                    clear oh
                    have KB : (pm != pm) = false := by cases pm <;> rfl
                    replace E := hide (cells_drew (unhide E))
                    replace G := hide (cells_drew (unhide G))
                    replace M := hide (cells_drew (unhide M))
                    replace L := hide (cells_drew (unhide L))
                    replace D := hide (cells_drew (unhide D))
                    replace HB := hide (unhide HB).drew
                    obtain ⟨e_0, e_1, e_2, e_3⟩ := cells4 (unhide E)
                    obtain ⟨g_0, g_1, g_2, g_3⟩ := cells4 (unhide G)
                    obtain ⟨m_0, m_1, m_2, m_3⟩ := cells4 (unhide M)
                    obtain ⟨d_0, d_1⟩ := cells2 (unhide D)
                    go_region_held3 (fun w' => w'.cell? ⟨F, 0, none⟩ = some (.int .i64 a0) ∧ w'.cell? ⟨F, 1, none⟩ = some (.int .i64 a1) ∧ w'.cell? ⟨F, 2, none⟩ = some (.int .i64 a2) ∧ w'.cell? ⟨F, 3, none⟩ = some (.int .i64 a3) ∧ w'.cell? ⟨T, 0, none⟩ = some (.int .i64 b0) ∧ w'.cell? ⟨T, 1, none⟩ = some (.int .i64 b1) ∧ w'.cell? ⟨T, 2, none⟩ = some (.int .i64 b2) ∧ w'.cell? ⟨T, 3, none⟩ = some (.int .i64 b3) ∧ w'.cell? ⟨wk3.heap.size, 0, none⟩ = some (.int .i64 m0) ∧ w'.cell? ⟨wk3.heap.size, 1, none⟩ = some (.int .i64 m1) ∧ w'.cell? ⟨wk3.heap.size, 2, none⟩ = some (.int .i64 m2) ∧ w'.cell? ⟨wk3.heap.size, 3, none⟩ = some (.int .i64 m3) ∧ w'.cell? ⟨DB, 0, none⟩ = some (.int .i64 u) ∧ w'.cell? ⟨DB, 1, none⟩ = some (.int .i64 v)) (first | exact ⟨e_0, e_1, e_2, e_3, g_0, g_1, g_2, g_3, m_0, m_1, m_2, m_3, d_0, d_1⟩ | go_keep)
                      (first | (go_at_call_of 25 (Value.int IntKind.i64 a0); refine (unhide R1 _).mono ?_; rintro e yy ⟨rfl, zz⟩; replace E := hide (cells_nx (unhide E) zz); replace G := hide (cells_nx (unhide G) zz); replace M := hide (cells_nx (unhide M) zz); replace L := hide (cells_nx (unhide L) zz); replace D := hide (cells_nx (unhide D) zz); replace HB := hide (below_nx (unhide HB) zz); clear zz; clear e_0 e_1 e_2 e_3 g_0 g_1 g_2 g_3 m_0 m_1 m_2 m_3 d_0 d_1; obtain ⟨e_0, e_1, e_2, e_3⟩ := cells4 (unhide E); obtain ⟨g_0, g_1, g_2, g_3⟩ := cells4 (unhide G); obtain ⟨m_0, m_1, m_2, m_3⟩ := cells4 (unhide M); obtain ⟨d_0, d_1⟩ := cells2 (unhide D)) | (go_at_call_of 25 (Value.int IntKind.i64 b0); refine (unhide R2 _).mono ?_; rintro e yy ⟨rfl, zz⟩; replace E := hide (cells_nx (unhide E) zz); replace G := hide (cells_nx (unhide G) zz); replace M := hide (cells_nx (unhide M) zz); replace L := hide (cells_nx (unhide L) zz); replace D := hide (cells_nx (unhide D) zz); replace HB := hide (below_nx (unhide HB) zz); clear zz; clear e_0 e_1 e_2 e_3 g_0 g_1 g_2 g_3 m_0 m_1 m_2 m_3 d_0 d_1; obtain ⟨e_0, e_1, e_2, e_3⟩ := cells4 (unhide E); obtain ⟨g_0, g_1, g_2, g_3⟩ := cells4 (unhide G); obtain ⟨m_0, m_1, m_2, m_3⟩ := cells4 (unhide M); obtain ⟨d_0, d_1⟩ := cells2 (unhide D)) | (go_at_call_of 25 (Value.int IntKind.i64 m0); refine (unhide R3 _).mono ?_; rintro e yy ⟨rfl, zz⟩; replace E := hide (cells_nx (unhide E) zz); replace G := hide (cells_nx (unhide G) zz); replace M := hide (cells_nx (unhide M) zz); replace L := hide (cells_nx (unhide L) zz); replace D := hide (cells_nx (unhide D) zz); replace HB := hide (below_nx (unhide HB) zz); clear zz; clear e_0 e_1 e_2 e_3 g_0 g_1 g_2 g_3 m_0 m_1 m_2 m_3 d_0 d_1; obtain ⟨e_0, e_1, e_2, e_3⟩ := cells4 (unhide E); obtain ⟨g_0, g_1, g_2, g_3⟩ := cells4 (unhide G); obtain ⟨m_0, m_1, m_2, m_3⟩ := cells4 (unhide M); obtain ⟨d_0, d_1⟩ := cells2 (unhide D)))
                    all_goals (try go_wp2_with fail)
                    all_goals go_meet
                    all_goals exact ⟨rfl, E, G, M, L, D, HB⟩
              case rest =>
                obtain ⟨rfl, E', G', M', L', D', HB'⟩ := hcut
                go_wp2
                go_roundw
                case rel => exact ⟨k + 1, by go_num, by omega, E', G', M', L', HB'⟩
                case measure => simp [intOf]; omega
            · go_wp2
              go_ret
              exact ⟨rfl, unhide HB⟩
end Go.Proofs.YtlgmpoofcdkaeaaDoor
