/- The walk of AddrReads. -/
import Derived.Test.YtlgmpoofcdkaeaaDoorAwA
import Derived.Test.YtlgmpoofcdkaeaaDoorAdT
namespace Go.Proofs.YtlgmpoofcdkaeaaDoor
open Go.RowKit

theorem cut100 (s : ByteArray) : (s.extract 0 (min (s.size : Int) 100).toNat).size ≤ 100 := by
  rw [ByteArray.size_extract]; omega

set_option maxRecDepth 100000 in
set_option maxHeartbeats 4000000 in
theorem reads_law (s : ByteArray) (w : World) (hs : s.size ≤ maxLen) (he : Env4 w) :
    Calls Tryd.prog 5 #[.string s] w fun e w' => e = .returned (.bool true) ∧ Below w.heap.size w w' := by
  have HE := hide he
  clear he
  unfold maxLen at hs
  go_enter Tryd.func5, Tryd.ntmps5
  have HB := hide (Below.refl w.heap.size w)
  go_upto_region 2 with fail
  have HZ := hide (cut100 s)
  generalize s.extract 0 (min (s.size : Int) 100).toNat = t at HZ ⊢
  have HR1 := hide (fun w => parseRef_val t w (by have := unhide HZ; omega))
  have HR2 := hide (fun w => parseRef_ref t w (by have := unhide HZ; omega))
  have HP1 := hide (fun w he => parse4_val t w (by have := unhide HZ; omega) he)
  have HP2 := hide (fun w => parse4_ref t w (by have := unhide HZ; omega))
  generalize refP t.data.toList = rp at HR1 HR2
  generalize fullP t.data.toList = fp at HP1 HP2
  obtain ⟨r, x⟩ := rp
  obtain ⟨f, y⟩ := fp
  simp only [] at HR1 HR2 HP1 HP2
  have HS1 := hide (fun w => sameRef_law r w)
  have HS2 := hide (fun w => sameFull_law f w)
  have HWK := hide wakes4_val
  unfold Rf.cells at HR1 HR2 HS1
  unfold Fl.cells at HP1 HP2 HS2
  go_wp2_with fail
  refine (unhide HR1 _).mono ?_
  rintro e wk1 ⟨rfl, bk1⟩
  replace HB := hide (below_nx (unhide HB) bk1)
  clear bk1
  go_upto_region 3 with fail
  have P1 := hide (cells_new wk1 29 #[.int .i64 r.col, .int .i64 r.row, .bool r.fc, .bool r.fr])
  replace HB := hide ((unhide HB).alloc (unhide HB).size (.cells #[.int .i64 r.col, .int .i64 r.row, .bool r.fc, .bool r.fr] 29))
  generalize hW : wk1.alloc (.cells #[.int .i64 r.col, .int .i64 r.row, .bool r.fc, .bool r.fr] 29) = Wn1 at P1  HB ⊢
  clear hW
  go_wp2_with fail
  refine (unhide HR2 _).mono ?_
  rintro e wk2 ⟨rfl, bk2⟩
  replace P1 := hide (cells_nx (unhide P1) bk2)
  replace HB := hide (below_nx (unhide HB) bk2)
  clear bk2
  go_upto_region 4 with fail
  have P2 := hide (cells_new wk2 33 #[.int .i64 r.col, .int .i64 r.row, .bool r.fc, .bool r.fr])
  replace P1 := hide (cells_al (unhide P1) (.cells #[.int .i64 r.col, .int .i64 r.row, .bool r.fc, .bool r.fr] 33))
  replace HB := hide ((unhide HB).alloc (unhide HB).size (.cells #[.int .i64 r.col, .int .i64 r.row, .bool r.fc, .bool r.fr] 33))
  generalize hW : wk2.alloc (.cells #[.int .i64 r.col, .int .i64 r.row, .bool r.fc, .bool r.fr] 33) = Wn2 at P2 P1 HB ⊢
  clear hW
  go_wp2_with fail
  refine (unhide HP1 _ ((unhide HE).below (unhide HB))).mono ?_
  rintro e wk3 ⟨rfl, bk3⟩
  replace P1 := hide (cells_nx (unhide P1) bk3)
  replace P2 := hide (cells_nx (unhide P2) bk3)
  replace HB := hide (below_nx (unhide HB) bk3)
  clear bk3
  go_upto_region 5 with fail
  have P3 := hide (cells_new wk3 31 #[.string f.book, .string f.sheet, .int .i64 f.a.col, .int .i64 f.a.row, .bool f.a.fc, .bool f.a.fr, .int .i64 f.b.col, .int .i64 f.b.row, .bool f.b.fc, .bool f.b.fr, .bool f.wide])
  replace P1 := hide (cells_al (unhide P1) (.cells #[.string f.book, .string f.sheet, .int .i64 f.a.col, .int .i64 f.a.row, .bool f.a.fc, .bool f.a.fr, .int .i64 f.b.col, .int .i64 f.b.row, .bool f.b.fc, .bool f.b.fr, .bool f.wide] 31))
  replace P2 := hide (cells_al (unhide P2) (.cells #[.string f.book, .string f.sheet, .int .i64 f.a.col, .int .i64 f.a.row, .bool f.a.fc, .bool f.a.fr, .int .i64 f.b.col, .int .i64 f.b.row, .bool f.b.fc, .bool f.b.fr, .bool f.wide] 31))
  replace HB := hide ((unhide HB).alloc (unhide HB).size (.cells #[.string f.book, .string f.sheet, .int .i64 f.a.col, .int .i64 f.a.row, .bool f.a.fc, .bool f.a.fr, .int .i64 f.b.col, .int .i64 f.b.row, .bool f.b.fc, .bool f.b.fr, .bool f.wide] 31))
  generalize hW : wk3.alloc (.cells #[.string f.book, .string f.sheet, .int .i64 f.a.col, .int .i64 f.a.row, .bool f.a.fc, .bool f.a.fr, .int .i64 f.b.col, .int .i64 f.b.row, .bool f.b.fc, .bool f.b.fr, .bool f.wide] 31) = Wn3 at P3 P1 P2 HB ⊢
  clear hW
  go_wp2_with fail
  refine (unhide HP2 _).mono ?_
  rintro e wk4 ⟨rfl, bk4⟩
  replace P1 := hide (cells_nx (unhide P1) bk4)
  replace P2 := hide (cells_nx (unhide P2) bk4)
  replace P3 := hide (cells_nx (unhide P3) bk4)
  replace HB := hide (below_nx (unhide HB) bk4)
  clear bk4
  go_upto_region 6 with fail
  have P4 := hide (cells_new wk4 35 #[.string f.book, .string f.sheet, .int .i64 f.a.col, .int .i64 f.a.row, .bool f.a.fc, .bool f.a.fr, .int .i64 f.b.col, .int .i64 f.b.row, .bool f.b.fc, .bool f.b.fr, .bool f.wide])
  replace P1 := hide (cells_al (unhide P1) (.cells #[.string f.book, .string f.sheet, .int .i64 f.a.col, .int .i64 f.a.row, .bool f.a.fc, .bool f.a.fr, .int .i64 f.b.col, .int .i64 f.b.row, .bool f.b.fc, .bool f.b.fr, .bool f.wide] 35))
  replace P2 := hide (cells_al (unhide P2) (.cells #[.string f.book, .string f.sheet, .int .i64 f.a.col, .int .i64 f.a.row, .bool f.a.fc, .bool f.a.fr, .int .i64 f.b.col, .int .i64 f.b.row, .bool f.b.fc, .bool f.b.fr, .bool f.wide] 35))
  replace P3 := hide (cells_al (unhide P3) (.cells #[.string f.book, .string f.sheet, .int .i64 f.a.col, .int .i64 f.a.row, .bool f.a.fc, .bool f.a.fr, .int .i64 f.b.col, .int .i64 f.b.row, .bool f.b.fc, .bool f.b.fr, .bool f.wide] 35))
  replace HB := hide ((unhide HB).alloc (unhide HB).size (.cells #[.string f.book, .string f.sheet, .int .i64 f.a.col, .int .i64 f.a.row, .bool f.a.fc, .bool f.a.fr, .int .i64 f.b.col, .int .i64 f.b.row, .bool f.b.fc, .bool f.b.fr, .bool f.wide] 35))
  generalize hW : wk4.alloc (.cells #[.string f.book, .string f.sheet, .int .i64 f.a.col, .int .i64 f.a.row, .bool f.a.fc, .bool f.a.fr, .int .i64 f.b.col, .int .i64 f.b.row, .bool f.b.fc, .bool f.b.fr, .bool f.wide] 35) = Wn4 at P4 P1 P2 P3 HB ⊢
  clear hW
  go_wp2_with fail
  refine (unhide HWK _ ((unhide HE).below (unhide HB))).mono ?_
  rintro e wk5 ⟨rfl, bk5⟩
  replace P1 := hide (cells_nx (unhide P1) bk5)
  replace P2 := hide (cells_nx (unhide P2) bk5)
  replace P3 := hide (cells_nx (unhide P3) bk5)
  replace P4 := hide (cells_nx (unhide P4) bk5)
  replace HB := hide (below_nx (unhide HB) bk5)
  clear bk5
  obtain ⟨p1_0, p1_1, p1_2, p1_3⟩ := cells4 (unhide P1)
  obtain ⟨p2_0, p2_1, p2_2, p2_3⟩ := cells4 (unhide P2)
  go_wp2_with fail
  refine (unhide HS1 _).mono ?_
  rintro e wk6 ⟨rfl, bk6⟩
  replace P1 := hide (cells_nx (unhide P1) bk6)
  replace P2 := hide (cells_nx (unhide P2) bk6)
  replace P3 := hide (cells_nx (unhide P3) bk6)
  replace P4 := hide (cells_nx (unhide P4) bk6)
  replace HB := hide (below_nx (unhide HB) bk6)
  clear bk6
  clear p1_0 p1_1 p1_2 p1_3 p2_0 p2_1 p2_2 p2_3
  obtain ⟨p3_0, p3_1, p3_2, p3_3, p3_4, p3_5, p3_6, p3_7, p3_8, p3_9, p3_10⟩ := cells11 (unhide P3)
  obtain ⟨p4_0, p4_1, p4_2, p4_3, p4_4, p4_5, p4_6, p4_7, p4_8, p4_9, p4_10⟩ := cells11 (unhide P4)
  go_wp2_with fail
  refine (unhide HS2 _).mono ?_
  rintro e wk7 ⟨rfl, bk7⟩
  replace P1 := hide (cells_nx (unhide P1) bk7)
  replace P2 := hide (cells_nx (unhide P2) bk7)
  replace P3 := hide (cells_nx (unhide P3) bk7)
  replace P4 := hide (cells_nx (unhide P4) bk7)
  replace HB := hide (below_nx (unhide HB) bk7)
  clear bk7
  clear p3_0 p3_1 p3_2 p3_3 p3_4 p3_5 p3_6 p3_7 p3_8 p3_9 p3_10 p4_0 p4_1 p4_2 p4_3 p4_4 p4_5 p4_6 p4_7 p4_8 p4_9 p4_10
  go_wp2
  go_ret
  exact ⟨rfl, unhide HB⟩
end Go.Proofs.YtlgmpoofcdkaeaaDoor
