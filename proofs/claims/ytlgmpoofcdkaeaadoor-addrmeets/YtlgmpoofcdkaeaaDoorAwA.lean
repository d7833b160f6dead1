/- What the laws of layer 4 share: references compared, and what the law asks first. -/
import Derived.Test.YtlgmpoofcdkaeaaDoorAdR
namespace Go.Proofs.YtlgmpoofcdkaeaaDoor
open Go.RowKit

set_option maxRecDepth 100000 in
set_option maxHeartbeats 2000000 in
theorem sameRef_law (r : Rf) (w : World) :
    Calls Tryd.prog 30 #[.agg r.cells, .agg r.cells] w fun e w' => e = .returned (.bool true) ∧ Below w.heap.size w w' := by
  unfold Rf.cells
  go_enter Tryd.func30, Tryd.ntmps30
  go_wp2
  go_ret
  exact ⟨rfl, below_al2 _ _ _⟩
set_option maxRecDepth 100000 in
set_option maxHeartbeats 2000000 in
theorem sameFull_law (f : Fl) (w : World) :
    Calls Tryd.prog 31 #[.agg f.cells, .agg f.cells] w fun e w' => e = .returned (.bool true) ∧ Below w.heap.size w w' := by
  have HA := hide (fun w => sameRef_law f.a w)
  have HBB := hide (fun w => sameRef_law f.b w)
  unfold Rf.cells at HA HBB
  unfold Fl.cells
  go_enter Tryd.func31, Tryd.ntmps31
  go_upto_region 1 with fail
  have P := hide (cells_al (cells_new w 31 #[.string f.book, .string f.sheet, .int .i64 f.a.col, .int .i64 f.a.row, .bool f.a.fc, .bool f.a.fr, .int .i64 f.b.col, .int .i64 f.b.row, .bool f.b.fc, .bool f.b.fr, .bool f.wide]) (.cells #[.string f.book, .string f.sheet, .int .i64 f.a.col, .int .i64 f.a.row, .bool f.a.fc, .bool f.a.fr, .int .i64 f.b.col, .int .i64 f.b.row, .bool f.b.fc, .bool f.b.fr, .bool f.wide] 35))
  have Q := hide (cells_new2 w (.cells #[.string f.book, .string f.sheet, .int .i64 f.a.col, .int .i64 f.a.row, .bool f.a.fc, .bool f.a.fr, .int .i64 f.b.col, .int .i64 f.b.row, .bool f.b.fc, .bool f.b.fr, .bool f.wide] 31) 35 #[.string f.book, .string f.sheet, .int .i64 f.a.col, .int .i64 f.a.row, .bool f.a.fc, .bool f.a.fr, .int .i64 f.b.col, .int .i64 f.b.row, .bool f.b.fc, .bool f.b.fr, .bool f.wide])
  have HB : Hid (Below w.heap.size w ((w.alloc (.cells #[.string f.book, .string f.sheet, .int .i64 f.a.col, .int .i64 f.a.row, .bool f.a.fc, .bool f.a.fr, .int .i64 f.b.col, .int .i64 f.b.row, .bool f.b.fc, .bool f.b.fr, .bool f.wide] 31)).alloc (.cells #[.string f.book, .string f.sheet, .int .i64 f.a.col, .int .i64 f.a.row, .bool f.a.fc, .bool f.a.fr, .int .i64 f.b.col, .int .i64 f.b.row, .bool f.b.fc, .bool f.b.fr, .bool f.wide] 35))) := hide (below_al2 _ _ _)
  generalize hW : (w.alloc (.cells #[.string f.book, .string f.sheet, .int .i64 f.a.col, .int .i64 f.a.row, .bool f.a.fc, .bool f.a.fr, .int .i64 f.b.col, .int .i64 f.b.row, .bool f.b.fc, .bool f.b.fr, .bool f.wide] 31)).alloc (.cells #[.string f.book, .string f.sheet, .int .i64 f.a.col, .int .i64 f.a.row, .bool f.a.fc, .bool f.a.fr, .int .i64 f.b.col, .int .i64 f.b.row, .bool f.b.fc, .bool f.b.fr, .bool f.wide] 35) = W0 at P Q HB ⊢
  clear hW
  obtain ⟨p_0, p_1, p_2, p_3, p_4, p_5, p_6, p_7, p_8, p_9, p_10⟩ := cells11 (unhide P)
  obtain ⟨q_0, q_1, q_2, q_3, q_4, q_5, q_6, q_7, q_8, q_9, q_10⟩ := cells11 (unhide Q)
  go_wp2_with fail
  refine (unhide HA _).mono ?_
  rintro e wk1 ⟨rfl, bk1⟩
  replace P := hide (cells_nx (unhide P) bk1)
  replace Q := hide (cells_nx (unhide Q) bk1)
  replace HB := hide (below_nx (unhide HB) bk1)
  clear bk1
  clear p_0 p_1 p_2 p_3 p_4 p_5 p_6 p_7 p_8 p_9 p_10 q_0 q_1 q_2 q_3 q_4 q_5 q_6 q_7 q_8 q_9 q_10
  obtain ⟨p_0, p_1, p_2, p_3, p_4, p_5, p_6, p_7, p_8, p_9, p_10⟩ := cells11 (unhide P)
  obtain ⟨q_0, q_1, q_2, q_3, q_4, q_5, q_6, q_7, q_8, q_9, q_10⟩ := cells11 (unhide Q)
  go_wp2_with fail
  refine (unhide HBB _).mono ?_
  rintro e wk2 ⟨rfl, bk2⟩
  replace P := hide (cells_nx (unhide P) bk2)
  replace Q := hide (cells_nx (unhide Q) bk2)
  replace HB := hide (below_nx (unhide HB) bk2)
  clear bk2
  clear p_0 p_1 p_2 p_3 p_4 p_5 p_6 p_7 p_8 p_9 p_10 q_0 q_1 q_2 q_3 q_4 q_5 q_6 q_7 q_8 q_9 q_10
  obtain ⟨p_0, p_1, p_2, p_3, p_4, p_5, p_6, p_7, p_8, p_9, p_10⟩ := cells11 (unhide P)
  obtain ⟨q_0, q_1, q_2, q_3, q_4, q_5, q_6, q_7, q_8, q_9, q_10⟩ := cells11 (unhide Q)
  go_wp2
  go_ret
  exact ⟨rfl, unhide HB⟩
theorem wk_1 : fullP [91, 66, 49, 93, 83, 33, 36, 99, 36, 57, 58, 65, 49] = ((⟨⟨#[66, 49]⟩, ⟨#[83]⟩, ⟨0, 0, false, false⟩, ⟨2, 8, true, true⟩, true⟩ : Fl), 0) := by kernel_rfl
theorem wk_2 : refP [65, 66, 49] = (⟨27, 0, false, false⟩, 0) := by kernel_rfl
theorem wk_3 : fullT (⟨⟨#[66, 49]⟩, ⟨#[83]⟩, ⟨0, 0, false, false⟩, ⟨2, 8, true, true⟩, true⟩ : Fl) = [91, 66, 49, 93, 83, 33, 65, 49, 58, 36, 67, 36, 57] := by kernel_rfl
theorem wk_4 : refT ⟨27, 0, false, false⟩ = [65, 66, 49] := by kernel_rfl
theorem wk_5 : areaV (⟨⟨#[66, 49]⟩, ⟨#[83]⟩, ⟨0, 0, false, false⟩, ⟨2, 8, true, true⟩, true⟩ : Fl) = #[.int .i64 0, .int .i64 0, .int .i64 2, .int .i64 8] := by kernel_rfl
theorem wk_6 : areaN 0 0 2 8 = 27 := by kernel_rfl

set_option maxRecDepth 100000 in
set_option maxHeartbeats 4000000 in
theorem wakes4_val (w : World) (he : Env4 w) :
    Calls Tryd.prog 11 #[] w fun e w' => e = .returned (.bool true) ∧ Below w.heap.size w w' := by
  have HE := hide he
  clear he
  have HP : Hid (∀ w, Env4 w → Calls Tryd.prog 28 #[.string ⟨#[91, 66, 49, 93, 83, 33, 36, 99, 36, 57, 58, 65, 49]⟩] w fun e w' => e = .returned (.tuple #[.agg #[.string ⟨#[66, 49]⟩, .string ⟨#[83]⟩, .int .i64 0, .int .i64 0, .bool false, .bool false, .int .i64 2, .int .i64 8, .bool true, .bool true, .bool true], .int .i64 0]) ∧ Below w.heap.size w w') := hide (fun w he => by have h := parse4_val ⟨#[91, 66, 49, 93, 83, 33, 36, 99, 36, 57, 58, 65, 49]⟩ w (by decide) he; rw [show (⟨#[91, 66, 49, 93, 83, 33, 36, 99, 36, 57, 58, 65, 49]⟩ : ByteArray).data.toList = [91, 66, 49, 93, 83, 33, 36, 99, 36, 57, 58, 65, 49] from rfl, wk_1] at h; exact h)
  have HR : Hid (∀ w, Calls Tryd.prog 26 #[.string ⟨#[65, 66, 49]⟩] w fun e w' => e = .returned (.tuple #[.agg #[.int .i64 27, .int .i64 0, .bool false, .bool false], .int .i64 0]) ∧ Below w.heap.size w w') := hide (fun w => by have h := parseRef_val ⟨#[65, 66, 49]⟩ w (by decide); rw [show (⟨#[65, 66, 49]⟩ : ByteArray).data.toList = [65, 66, 49] from rfl, wk_2] at h; exact h)
  have HT : Hid (∀ w, Env4 w → Calls Tryd.prog 14 #[.agg #[.string ⟨#[66, 49]⟩, .string ⟨#[83]⟩, .int .i64 0, .int .i64 0, .bool false, .bool false, .int .i64 2, .int .i64 8, .bool true, .bool true, .bool true]] w fun e w' => e = .returned (.string ⟨#[91, 66, 49, 93, 83, 33, 65, 49, 58, 36, 67, 36, 57]⟩) ∧ Below w.heap.size w w') := hide (fun w he => by have h := fullText_val (⟨⟨#[66, 49]⟩, ⟨#[83]⟩, ⟨0, 0, false, false⟩, ⟨2, 8, true, true⟩, true⟩ : Fl) w he; rw [wk_3] at h; exact h)
  have HC : Hid (∀ w, Env4 w → Calls Tryd.prog 17 #[.agg #[.int .i64 27, .int .i64 0]] w fun e w' => e = .returned (.string ⟨#[65, 66, 49]⟩) ∧ Below w.heap.size w w') := hide (fun w he => by have h := cellText_val 27 0 w he; rw [wk_4] at h; exact h)
  have HA : Hid (∀ w, Calls Tryd.prog 36 #[.agg #[.string ⟨#[66, 49]⟩, .string ⟨#[83]⟩, .int .i64 0, .int .i64 0, .bool false, .bool false, .int .i64 2, .int .i64 8, .bool true, .bool true, .bool true]] w fun e w' => e = .returned (.agg #[.int .i64 0, .int .i64 0, .int .i64 2, .int .i64 8]) ∧ Below w.heap.size w w') := hide (fun w => by have h := fullArea_val (⟨⟨#[66, 49]⟩, ⟨#[83]⟩, ⟨0, 0, false, false⟩, ⟨2, 8, true, true⟩, true⟩ : Fl) w; rw [wk_5] at h; exact h)
  have HS : Hid (∀ w, Calls Tryd.prog 24 #[.agg #[.int .i64 0, .int .i64 0, .int .i64 2, .int .i64 8]] w fun e w' => e = .returned (.int .i64 27) ∧ Below w.heap.size w w') := hide (fun w => by have h := size_val 0 0 2 8 w; rw [wk_6] at h; exact h)
  go_enter Tryd.func11, Tryd.ntmps11
  have HB := hide (Below.refl w.heap.size w)
  go_wp2_with fail
  refine (unhide HP _ ((unhide HE).below (unhide HB))).mono ?_
  rintro e wk1 ⟨rfl, bk1⟩
  replace HB := hide (below_nx (unhide HB) bk1)
  clear bk1
  go_upto_region 2 with fail
  have P := hide (cells_new wk1 31 #[.string ⟨#[66, 49]⟩, .string ⟨#[83]⟩, .int .i64 0, .int .i64 0, .bool false, .bool false, .int .i64 2, .int .i64 8, .bool true, .bool true, .bool true])
  replace HB := hide ((unhide HB).alloc (unhide HB).size (.cells #[.string ⟨#[66, 49]⟩, .string ⟨#[83]⟩, .int .i64 0, .int .i64 0, .bool false, .bool false, .int .i64 2, .int .i64 8, .bool true, .bool true, .bool true] 31))
  generalize hW : wk1.alloc (.cells #[.string ⟨#[66, 49]⟩, .string ⟨#[83]⟩, .int .i64 0, .int .i64 0, .bool false, .bool false, .int .i64 2, .int .i64 8, .bool true, .bool true, .bool true] 31) = W1 at P HB ⊢
  clear hW
  go_wp2_with fail
  refine (unhide HR _).mono ?_
  rintro e wk2 ⟨rfl, bk2⟩
  replace P := hide (cells_nx (unhide P) bk2)
  replace HB := hide (below_nx (unhide HB) bk2)
  clear bk2
  go_upto_region 3 with fail
  have Q := hide (cells_new wk2 29 #[.int .i64 27, .int .i64 0, .bool false, .bool false])
  replace P := hide (cells_al (unhide P) (.cells #[.int .i64 27, .int .i64 0, .bool false, .bool false] 29))
  replace HB := hide ((unhide HB).alloc (unhide HB).size (.cells #[.int .i64 27, .int .i64 0, .bool false, .bool false] 29))
  generalize hW : wk2.alloc (.cells #[.int .i64 27, .int .i64 0, .bool false, .bool false] 29) = W2 at P Q HB ⊢
  clear hW
  obtain ⟨p_0, p_1, p_2, p_3, p_4, p_5, p_6, p_7, p_8, p_9, p_10⟩ := cells11 (unhide P)
  obtain ⟨q_0, q_1, q_2, q_3⟩ := cells4 (unhide Q)
  go_wp2_with fail
  refine (unhide HT _ ((unhide HE).below (unhide HB))).mono ?_
  rintro e wk3 ⟨rfl, bk3⟩
  replace P := hide (cells_nx (unhide P) bk3)
  replace Q := hide (cells_nx (unhide Q) bk3)
  replace HB := hide (below_nx (unhide HB) bk3)
  clear bk3
  clear p_0 p_1 p_2 p_3 p_4 p_5 p_6 p_7 p_8 p_9 p_10 q_0 q_1 q_2 q_3
  obtain ⟨p_0, p_1, p_2, p_3, p_4, p_5, p_6, p_7, p_8, p_9, p_10⟩ := cells11 (unhide P)
  obtain ⟨q_0, q_1, q_2, q_3⟩ := cells4 (unhide Q)
  go_wp2_with fail
  refine (unhide HC _ ((unhide HE).below (unhide HB))).mono ?_
  rintro e wk4 ⟨rfl, bk4⟩
  replace P := hide (cells_nx (unhide P) bk4)
  replace Q := hide (cells_nx (unhide Q) bk4)
  replace HB := hide (below_nx (unhide HB) bk4)
  clear bk4
  clear p_0 p_1 p_2 p_3 p_4 p_5 p_6 p_7 p_8 p_9 p_10 q_0 q_1 q_2 q_3
  obtain ⟨p_0, p_1, p_2, p_3, p_4, p_5, p_6, p_7, p_8, p_9, p_10⟩ := cells11 (unhide P)
  go_wp2_with fail
  refine (unhide HA _).mono ?_
  rintro e wk5 ⟨rfl, bk5⟩
  replace P := hide (cells_nx (unhide P) bk5)
  replace Q := hide (cells_nx (unhide Q) bk5)
  replace HB := hide (below_nx (unhide HB) bk5)
  clear bk5
  clear p_0 p_1 p_2 p_3 p_4 p_5 p_6 p_7 p_8 p_9 p_10
  go_wp2_with fail
  refine (unhide HS _).mono ?_
  rintro e wk6 ⟨rfl, bk6⟩
  replace P := hide (cells_nx (unhide P) bk6)
  replace Q := hide (cells_nx (unhide Q) bk6)
  replace HB := hide (below_nx (unhide HB) bk6)
  clear bk6
  go_wp2
  go_ret
  exact ⟨rfl, unhide HB⟩
end Go.Proofs.YtlgmpoofcdkaeaaDoor
