/- The walk of AddrGood. -/
import Derived.Test.YtlgmpoofcdkaeaaDoorAwB
import Derived.Test.YtlgmpoofcdkaeaaDoorAdN
namespace Go.Proofs.YtlgmpoofcdkaeaaDoor
open Go.RowKit

theorem below_same {P : Program} {f : Nat} {args : Array Value} {w : World} {v : Value} (h : Calls P f args w fun e w' => e = .returned v ∧ w' = w) : Calls P f args w fun e w' => e = .returned v ∧ Below w.heap.size w w' :=
  h.mono (fun _ _ ⟨h1, h2⟩ => ⟨h1, by rw [h2]; exact Below.refl _ _⟩)
theorem cut30 (s : ByteArray) : (s.extract 0 (min (s.size : Int) 30).toNat).size ≤ 30 := by
  rw [ByteArray.size_extract]; omega

set_option maxRecDepth 100000 in
set_option maxHeartbeats 8000000 in
theorem good_law (x : Fl) (s : ByteArray) (w : World) (hx : x.book.size ≤ maxLen ∧ x.sheet.size ≤ maxLen) (hs : s.size ≤ maxLen) (he : Env4 w) :
    Calls Tryd.prog 3 #[.agg x.lcells, .string s] w fun e w' => e = .returned (.bool true) ∧ Below w.heap.size w w' := by
  unfold maxLen at hs
  have HE := hide he
  clear he
  have HFU := hide (fun w => fulls_law x w hx.1 hx.2)
  clear hx
  have EX : Hid ((cutF x).a = x.a) := hide rfl
  obtain ⟨X, eX⟩ : ∃ X, cutF x = X := ⟨_, rfl⟩
  rw [eX] at HFU EX
  clear eX
  have HWK := hide wakes4_val
  have HG1 := hide (fun w => fullGood_val X w)
  have HG2 := hide (fun w => good4_ref X w)
  generalize goodF X = G at HG1 HG2
  have HT1 := hide (fun w he => fullText_val X w he)
  have HT2 := hide (fun w => text4_ref X w)
  generalize (⟨(fullT X).toArray⟩ : ByteArray) = T at HT1 HT2
  have HR1 := hide (fun w he => refText_val X.a w he)
  have HR2 := hide (fun w => refText_ref X.a w)
  generalize (⟨(refT X.a).toArray⟩ : ByteArray) = RT at HR1 HR2
  have HC1 := hide (fun w he => cellText_val x.a.col x.a.row w he)
  have HP2 := hide (fun w => refText_ref ⟨x.a.col, x.a.row, false, false⟩ w)
  generalize (⟨(refT ⟨x.a.col, x.a.row, false, false⟩).toArray⟩ : ByteArray) = PT at HC1 HP2
  have HK1 := hide (fun w => cellGood_val x.a.col x.a.row w)
  have HK2 := hide (fun w => below_same (cell_ref x.a.col x.a.row w))
  generalize cellG x.a.col x.a.row = K at HK1 HK2
  have HA1 := hide (fun w => areaGood_val X.a.col X.a.row X.b.col X.b.row w)
  have HA2 := hide (fun w => area_ref X.a X.b w)
  generalize areaG X.a.col X.a.row X.b.col X.b.row = AG at HA1 HA2
  generalize areaN X.a.col X.a.row X.b.col X.b.row = AN at HA2
  have EXc : x.a.col = X.a.col := by rw [unhide EX]
  have EXr : x.a.row = X.a.row := by rw [unhide EX]
  rw [EXc, EXr] at HC1 HP2 HK1 HK2
  unfold Fl.cells at HFU HG1 HG2 HT1 HT2
  unfold Rf.cells at HR1 HR2 HP2 HA2
  unfold Fl.lcells at HFU ⊢
  rw [EXc, EXr] at HFU ⊢
  clear EXc EXr EX
  go_enter Tryd.func3, Tryd.ntmps3
  go_upto_region 1 with fail
  have P := hide (cells_new w 25 #[.string x.book, .string x.sheet, .int .i64 X.a.col, .int .i64 X.a.row, .int .i64 x.b.col, .int .i64 x.b.row, .bool x.a.fc, .bool x.a.fr, .bool x.b.fc, .bool x.b.fr, .bool x.wide])
  have HB : Hid (Below w.heap.size w (w.alloc (.cells #[.string x.book, .string x.sheet, .int .i64 X.a.col, .int .i64 X.a.row, .int .i64 x.b.col, .int .i64 x.b.row, .bool x.a.fc, .bool x.a.fr, .bool x.b.fc, .bool x.b.fr, .bool x.wide] 25))) := hide (below_al _ _)
  generalize hW : w.alloc (.cells #[.string x.book, .string x.sheet, .int .i64 X.a.col, .int .i64 X.a.row, .int .i64 x.b.col, .int .i64 x.b.row, .bool x.a.fc, .bool x.a.fr, .bool x.b.fc, .bool x.b.fr, .bool x.wide] 25) = W0 at P HB ⊢
  clear hW
  obtain ⟨p_0, p_1, p_2, p_3, p_4, p_5, p_6, p_7, p_8, p_9, p_10⟩ := cells11 (unhide P)
  go_wp2_with fail
  refine (unhide HFU _).mono ?_
  rintro e wk1 ⟨rfl, bk1⟩
  replace P := hide (cells_nx (unhide P) bk1)
  replace HB := hide (below_nx (unhide HB) bk1)
  clear bk1
  clear p_0 p_1 p_2 p_3 p_4 p_5 p_6 p_7 p_8 p_9 p_10
  go_upto_region 2 with fail
  have A := hide (cells_al (cells_new wk1 31 #[.string X.book, .string X.sheet, .int .i64 X.a.col, .int .i64 X.a.row, .bool X.a.fc, .bool X.a.fr, .int .i64 X.b.col, .int .i64 X.b.row, .bool X.b.fc, .bool X.b.fr, .bool X.wide]) (.cells #[.string X.book, .string X.sheet, .int .i64 X.a.col, .int .i64 X.a.row, .bool X.a.fc, .bool X.a.fr, .int .i64 X.b.col, .int .i64 X.b.row, .bool X.b.fc, .bool X.b.fr, .bool X.wide] 35))
  have R := hide (cells_new2 wk1 (.cells #[.string X.book, .string X.sheet, .int .i64 X.a.col, .int .i64 X.a.row, .bool X.a.fc, .bool X.a.fr, .int .i64 X.b.col, .int .i64 X.b.row, .bool X.b.fc, .bool X.b.fr, .bool X.wide] 31) 35 #[.string X.book, .string X.sheet, .int .i64 X.a.col, .int .i64 X.a.row, .bool X.a.fc, .bool X.a.fr, .int .i64 X.b.col, .int .i64 X.b.row, .bool X.b.fc, .bool X.b.fr, .bool X.wide])
  replace P := hide (cells_al (cells_al (unhide P) (.cells #[.string X.book, .string X.sheet, .int .i64 X.a.col, .int .i64 X.a.row, .bool X.a.fc, .bool X.a.fr, .int .i64 X.b.col, .int .i64 X.b.row, .bool X.b.fc, .bool X.b.fr, .bool X.wide] 31)) (.cells #[.string X.book, .string X.sheet, .int .i64 X.a.col, .int .i64 X.a.row, .bool X.a.fc, .bool X.a.fr, .int .i64 X.b.col, .int .i64 X.b.row, .bool X.b.fc, .bool X.b.fr, .bool X.wide] 35))
  replace HB := hide (((unhide HB).alloc (unhide HB).size (.cells #[.string X.book, .string X.sheet, .int .i64 X.a.col, .int .i64 X.a.row, .bool X.a.fc, .bool X.a.fr, .int .i64 X.b.col, .int .i64 X.b.row, .bool X.b.fc, .bool X.b.fr, .bool X.wide] 31)).alloc (by have := (unhide HB).size; simp; omega) (.cells #[.string X.book, .string X.sheet, .int .i64 X.a.col, .int .i64 X.a.row, .bool X.a.fc, .bool X.a.fr, .int .i64 X.b.col, .int .i64 X.b.row, .bool X.b.fc, .bool X.b.fr, .bool X.wide] 35))
  generalize hW : (wk1.alloc (.cells #[.string X.book, .string X.sheet, .int .i64 X.a.col, .int .i64 X.a.row, .bool X.a.fc, .bool X.a.fr, .int .i64 X.b.col, .int .i64 X.b.row, .bool X.b.fc, .bool X.b.fr, .bool X.wide] 31)).alloc (.cells #[.string X.book, .string X.sheet, .int .i64 X.a.col, .int .i64 X.a.row, .bool X.a.fc, .bool X.a.fr, .int .i64 X.b.col, .int .i64 X.b.row, .bool X.b.fc, .bool X.b.fr, .bool X.wide] 35) = WF1 at A R P HB ⊢
  clear hW
  go_upto_region 3 with fail
  generalize s.extract 0 (min (s.size : Int) 30).toNat = t
  have HN1 := hide (fun w => name_val t w)
  have HN2 := hide (fun w => below_same (name_ref t w))
  generalize nameG t.data.toList = N at HN1 HN2
  obtain ⟨r_0, r_1, r_2, r_3, r_4, r_5, r_6, r_7, r_8, r_9, r_10⟩ := cells11 (unhide R)
  go_wp2_with fail
  refine (unhide HA2 _).mono ?_
  rintro e wk2 ⟨rfl, bk2⟩
  replace P := hide (cells_nx (unhide P) bk2)
  replace A := hide (cells_nx (unhide A) bk2)
  replace R := hide (cells_nx (unhide R) bk2)
  replace HB := hide (below_nx (unhide HB) bk2)
  clear bk2
  clear r_0 r_1 r_2 r_3 r_4 r_5 r_6 r_7 r_8 r_9 r_10
  obtain ⟨p_0, p_1, p_2, p_3, p_4, p_5, p_6, p_7, p_8, p_9, p_10⟩ := cells11 (unhide P)
  go_wp2_with fail
  refine (unhide HP2 _).mono ?_
  rintro e wk3 ⟨rfl, bk3⟩
  replace P := hide (cells_nx (unhide P) bk3)
  replace A := hide (cells_nx (unhide A) bk3)
  replace R := hide (cells_nx (unhide R) bk3)
  replace HB := hide (below_nx (unhide HB) bk3)
  clear bk3
  clear p_0 p_1 p_2 p_3 p_4 p_5 p_6 p_7 p_8 p_9 p_10
  go_upto_region 5 with fail
  simp only [List.append]
  replace P := hide (cells_drew (unhide P))
  replace A := hide (cells_drew (unhide A))
  replace R := hide (cells_drew (unhide R))
  replace HB := hide (unhide HB).drew
  obtain ⟨a_0, a_1, a_2, a_3, a_4, a_5, a_6, a_7, a_8, a_9, a_10⟩ := cells11 (unhide A)
  obtain ⟨r_0, r_1, r_2, r_3, r_4, r_5, r_6, r_7, r_8, r_9, r_10⟩ := cells11 (unhide R)
  obtain ⟨p_0, p_1, p_2, p_3, p_4, p_5, p_6, p_7, p_8, p_9, p_10⟩ := cells11 (unhide P)
  go_region_held3 (fun w' => w'.cell? ⟨wk1.heap.size, 0, none⟩ = some (.string X.book) ∧ w'.cell? ⟨wk1.heap.size, 1, none⟩ = some (.string X.sheet) ∧ w'.cell? ⟨wk1.heap.size, 2, none⟩ = some (.int .i64 X.a.col) ∧ w'.cell? ⟨wk1.heap.size, 3, none⟩ = some (.int .i64 X.a.row) ∧ w'.cell? ⟨wk1.heap.size, 4, none⟩ = some (.bool X.a.fc) ∧ w'.cell? ⟨wk1.heap.size, 5, none⟩ = some (.bool X.a.fr) ∧ w'.cell? ⟨wk1.heap.size, 6, none⟩ = some (.int .i64 X.b.col) ∧ w'.cell? ⟨wk1.heap.size, 7, none⟩ = some (.int .i64 X.b.row) ∧ w'.cell? ⟨wk1.heap.size, 8, none⟩ = some (.bool X.b.fc) ∧ w'.cell? ⟨wk1.heap.size, 9, none⟩ = some (.bool X.b.fr) ∧ w'.cell? ⟨wk1.heap.size, 10, none⟩ = some (.bool X.wide) ∧ w'.cell? ⟨wk1.heap.size + 1, 0, none⟩ = some (.string X.book) ∧ w'.cell? ⟨wk1.heap.size + 1, 1, none⟩ = some (.string X.sheet) ∧ w'.cell? ⟨wk1.heap.size + 1, 2, none⟩ = some (.int .i64 X.a.col) ∧ w'.cell? ⟨wk1.heap.size + 1, 3, none⟩ = some (.int .i64 X.a.row) ∧ w'.cell? ⟨wk1.heap.size + 1, 4, none⟩ = some (.bool X.a.fc) ∧ w'.cell? ⟨wk1.heap.size + 1, 5, none⟩ = some (.bool X.a.fr) ∧ w'.cell? ⟨wk1.heap.size + 1, 6, none⟩ = some (.int .i64 X.b.col) ∧ w'.cell? ⟨wk1.heap.size + 1, 7, none⟩ = some (.int .i64 X.b.row) ∧ w'.cell? ⟨wk1.heap.size + 1, 8, none⟩ = some (.bool X.b.fc) ∧ w'.cell? ⟨wk1.heap.size + 1, 9, none⟩ = some (.bool X.b.fr) ∧ w'.cell? ⟨wk1.heap.size + 1, 10, none⟩ = some (.bool X.wide) ∧ w'.cell? ⟨w.heap.size, 2, none⟩ = some (.int .i64 X.a.col) ∧ w'.cell? ⟨w.heap.size, 3, none⟩ = some (.int .i64 X.a.row)) (first | exact ⟨a_0, a_1, a_2, a_3, a_4, a_5, a_6, a_7, a_8, a_9, a_10, r_0, r_1, r_2, r_3, r_4, r_5, r_6, r_7, r_8, r_9, r_10, p_2, p_3⟩ | go_keep)
    (first
      | (go_at_call 11; refine (unhide HWK _ ((unhide HE).below (unhide HB))).mono ?_; rintro e yy ⟨rfl, zz⟩; replace P := hide (cells_nx (unhide P) zz); replace A := hide (cells_nx (unhide A) zz); replace R := hide (cells_nx (unhide R) zz); replace HB := hide (below_nx (unhide HB) zz); clear zz a_0 a_1 a_2 a_3 a_4 a_5 a_6 a_7 a_8 a_9 a_10 r_0 r_1 r_2 r_3 r_4 r_5 r_6 r_7 r_8 r_9 r_10 p_0 p_1 p_2 p_3 p_4 p_5 p_6 p_7 p_8 p_9 p_10; obtain ⟨a_0, a_1, a_2, a_3, a_4, a_5, a_6, a_7, a_8, a_9, a_10⟩ := cells11 (unhide A); obtain ⟨r_0, r_1, r_2, r_3, r_4, r_5, r_6, r_7, r_8, r_9, r_10⟩ := cells11 (unhide R); obtain ⟨p_0, p_1, p_2, p_3, p_4, p_5, p_6, p_7, p_8, p_9, p_10⟩ := cells11 (unhide P))
      | (go_at_call 12; refine (unhide HG1 _).mono ?_; rintro e yy ⟨rfl, zz⟩; replace P := hide (cells_nx (unhide P) zz); replace A := hide (cells_nx (unhide A) zz); replace R := hide (cells_nx (unhide R) zz); replace HB := hide (below_nx (unhide HB) zz); clear zz a_0 a_1 a_2 a_3 a_4 a_5 a_6 a_7 a_8 a_9 a_10 r_0 r_1 r_2 r_3 r_4 r_5 r_6 r_7 r_8 r_9 r_10 p_0 p_1 p_2 p_3 p_4 p_5 p_6 p_7 p_8 p_9 p_10; obtain ⟨a_0, a_1, a_2, a_3, a_4, a_5, a_6, a_7, a_8, a_9, a_10⟩ := cells11 (unhide A); obtain ⟨r_0, r_1, r_2, r_3, r_4, r_5, r_6, r_7, r_8, r_9, r_10⟩ := cells11 (unhide R); obtain ⟨p_0, p_1, p_2, p_3, p_4, p_5, p_6, p_7, p_8, p_9, p_10⟩ := cells11 (unhide P))
      | (go_at_call 13; refine (unhide HG2 _).mono ?_; rintro e yy ⟨rfl, zz⟩; replace P := hide (cells_nx (unhide P) zz); replace A := hide (cells_nx (unhide A) zz); replace R := hide (cells_nx (unhide R) zz); replace HB := hide (below_nx (unhide HB) zz); clear zz a_0 a_1 a_2 a_3 a_4 a_5 a_6 a_7 a_8 a_9 a_10 r_0 r_1 r_2 r_3 r_4 r_5 r_6 r_7 r_8 r_9 r_10 p_0 p_1 p_2 p_3 p_4 p_5 p_6 p_7 p_8 p_9 p_10; obtain ⟨a_0, a_1, a_2, a_3, a_4, a_5, a_6, a_7, a_8, a_9, a_10⟩ := cells11 (unhide A); obtain ⟨r_0, r_1, r_2, r_3, r_4, r_5, r_6, r_7, r_8, r_9, r_10⟩ := cells11 (unhide R); obtain ⟨p_0, p_1, p_2, p_3, p_4, p_5, p_6, p_7, p_8, p_9, p_10⟩ := cells11 (unhide P))
      | (go_at_call 14; refine (unhide HT1 _ ((unhide HE).below (unhide HB))).mono ?_; rintro e yy ⟨rfl, zz⟩; replace P := hide (cells_nx (unhide P) zz); replace A := hide (cells_nx (unhide A) zz); replace R := hide (cells_nx (unhide R) zz); replace HB := hide (below_nx (unhide HB) zz); clear zz a_0 a_1 a_2 a_3 a_4 a_5 a_6 a_7 a_8 a_9 a_10 r_0 r_1 r_2 r_3 r_4 r_5 r_6 r_7 r_8 r_9 r_10 p_0 p_1 p_2 p_3 p_4 p_5 p_6 p_7 p_8 p_9 p_10; obtain ⟨a_0, a_1, a_2, a_3, a_4, a_5, a_6, a_7, a_8, a_9, a_10⟩ := cells11 (unhide A); obtain ⟨r_0, r_1, r_2, r_3, r_4, r_5, r_6, r_7, r_8, r_9, r_10⟩ := cells11 (unhide R); obtain ⟨p_0, p_1, p_2, p_3, p_4, p_5, p_6, p_7, p_8, p_9, p_10⟩ := cells11 (unhide P))
      | (go_at_call 15; refine (unhide HT2 _).mono ?_; rintro e yy ⟨rfl, zz⟩; replace P := hide (cells_nx (unhide P) zz); replace A := hide (cells_nx (unhide A) zz); replace R := hide (cells_nx (unhide R) zz); replace HB := hide (below_nx (unhide HB) zz); clear zz a_0 a_1 a_2 a_3 a_4 a_5 a_6 a_7 a_8 a_9 a_10 r_0 r_1 r_2 r_3 r_4 r_5 r_6 r_7 r_8 r_9 r_10 p_0 p_1 p_2 p_3 p_4 p_5 p_6 p_7 p_8 p_9 p_10; obtain ⟨a_0, a_1, a_2, a_3, a_4, a_5, a_6, a_7, a_8, a_9, a_10⟩ := cells11 (unhide A); obtain ⟨r_0, r_1, r_2, r_3, r_4, r_5, r_6, r_7, r_8, r_9, r_10⟩ := cells11 (unhide R); obtain ⟨p_0, p_1, p_2, p_3, p_4, p_5, p_6, p_7, p_8, p_9, p_10⟩ := cells11 (unhide P))
      | (go_at_call 16; refine (unhide HR1 _ ((unhide HE).below (unhide HB))).mono ?_; rintro e yy ⟨rfl, zz⟩; replace P := hide (cells_nx (unhide P) zz); replace A := hide (cells_nx (unhide A) zz); replace R := hide (cells_nx (unhide R) zz); replace HB := hide (below_nx (unhide HB) zz); clear zz a_0 a_1 a_2 a_3 a_4 a_5 a_6 a_7 a_8 a_9 a_10 r_0 r_1 r_2 r_3 r_4 r_5 r_6 r_7 r_8 r_9 r_10 p_0 p_1 p_2 p_3 p_4 p_5 p_6 p_7 p_8 p_9 p_10; obtain ⟨a_0, a_1, a_2, a_3, a_4, a_5, a_6, a_7, a_8, a_9, a_10⟩ := cells11 (unhide A); obtain ⟨r_0, r_1, r_2, r_3, r_4, r_5, r_6, r_7, r_8, r_9, r_10⟩ := cells11 (unhide R); obtain ⟨p_0, p_1, p_2, p_3, p_4, p_5, p_6, p_7, p_8, p_9, p_10⟩ := cells11 (unhide P))
      | (go_at_call 10; refine (unhide HR2 _).mono ?_; rintro e yy ⟨rfl, zz⟩; replace P := hide (cells_nx (unhide P) zz); replace A := hide (cells_nx (unhide A) zz); replace R := hide (cells_nx (unhide R) zz); replace HB := hide (below_nx (unhide HB) zz); clear zz a_0 a_1 a_2 a_3 a_4 a_5 a_6 a_7 a_8 a_9 a_10 r_0 r_1 r_2 r_3 r_4 r_5 r_6 r_7 r_8 r_9 r_10 p_0 p_1 p_2 p_3 p_4 p_5 p_6 p_7 p_8 p_9 p_10; obtain ⟨a_0, a_1, a_2, a_3, a_4, a_5, a_6, a_7, a_8, a_9, a_10⟩ := cells11 (unhide A); obtain ⟨r_0, r_1, r_2, r_3, r_4, r_5, r_6, r_7, r_8, r_9, r_10⟩ := cells11 (unhide R); obtain ⟨p_0, p_1, p_2, p_3, p_4, p_5, p_6, p_7, p_8, p_9, p_10⟩ := cells11 (unhide P))
      | (go_at_call 17; refine (unhide HC1 _ ((unhide HE).below (unhide HB))).mono ?_; rintro e yy ⟨rfl, zz⟩; replace P := hide (cells_nx (unhide P) zz); replace A := hide (cells_nx (unhide A) zz); replace R := hide (cells_nx (unhide R) zz); replace HB := hide (below_nx (unhide HB) zz); clear zz a_0 a_1 a_2 a_3 a_4 a_5 a_6 a_7 a_8 a_9 a_10 r_0 r_1 r_2 r_3 r_4 r_5 r_6 r_7 r_8 r_9 r_10 p_0 p_1 p_2 p_3 p_4 p_5 p_6 p_7 p_8 p_9 p_10; obtain ⟨a_0, a_1, a_2, a_3, a_4, a_5, a_6, a_7, a_8, a_9, a_10⟩ := cells11 (unhide A); obtain ⟨r_0, r_1, r_2, r_3, r_4, r_5, r_6, r_7, r_8, r_9, r_10⟩ := cells11 (unhide R); obtain ⟨p_0, p_1, p_2, p_3, p_4, p_5, p_6, p_7, p_8, p_9, p_10⟩ := cells11 (unhide P))
      | (go_at_call 18; refine (unhide HK1 _).mono ?_; rintro e yy ⟨rfl, zz⟩; replace P := hide (cells_nx (unhide P) zz); replace A := hide (cells_nx (unhide A) zz); replace R := hide (cells_nx (unhide R) zz); replace HB := hide (below_nx (unhide HB) zz); clear zz a_0 a_1 a_2 a_3 a_4 a_5 a_6 a_7 a_8 a_9 a_10 r_0 r_1 r_2 r_3 r_4 r_5 r_6 r_7 r_8 r_9 r_10 p_0 p_1 p_2 p_3 p_4 p_5 p_6 p_7 p_8 p_9 p_10; obtain ⟨a_0, a_1, a_2, a_3, a_4, a_5, a_6, a_7, a_8, a_9, a_10⟩ := cells11 (unhide A); obtain ⟨r_0, r_1, r_2, r_3, r_4, r_5, r_6, r_7, r_8, r_9, r_10⟩ := cells11 (unhide R); obtain ⟨p_0, p_1, p_2, p_3, p_4, p_5, p_6, p_7, p_8, p_9, p_10⟩ := cells11 (unhide P))
      | (go_at_call 19; refine (unhide HK2 _).mono ?_; rintro e yy ⟨rfl, zz⟩; replace P := hide (cells_nx (unhide P) zz); replace A := hide (cells_nx (unhide A) zz); replace R := hide (cells_nx (unhide R) zz); replace HB := hide (below_nx (unhide HB) zz); clear zz a_0 a_1 a_2 a_3 a_4 a_5 a_6 a_7 a_8 a_9 a_10 r_0 r_1 r_2 r_3 r_4 r_5 r_6 r_7 r_8 r_9 r_10 p_0 p_1 p_2 p_3 p_4 p_5 p_6 p_7 p_8 p_9 p_10; obtain ⟨a_0, a_1, a_2, a_3, a_4, a_5, a_6, a_7, a_8, a_9, a_10⟩ := cells11 (unhide A); obtain ⟨r_0, r_1, r_2, r_3, r_4, r_5, r_6, r_7, r_8, r_9, r_10⟩ := cells11 (unhide R); obtain ⟨p_0, p_1, p_2, p_3, p_4, p_5, p_6, p_7, p_8, p_9, p_10⟩ := cells11 (unhide P))
      | (go_at_call 20; refine (unhide HN1 _).mono ?_; rintro e yy ⟨rfl, zz⟩; replace P := hide (cells_nx (unhide P) zz); replace A := hide (cells_nx (unhide A) zz); replace R := hide (cells_nx (unhide R) zz); replace HB := hide (below_nx (unhide HB) zz); clear zz a_0 a_1 a_2 a_3 a_4 a_5 a_6 a_7 a_8 a_9 a_10 r_0 r_1 r_2 r_3 r_4 r_5 r_6 r_7 r_8 r_9 r_10 p_0 p_1 p_2 p_3 p_4 p_5 p_6 p_7 p_8 p_9 p_10; obtain ⟨a_0, a_1, a_2, a_3, a_4, a_5, a_6, a_7, a_8, a_9, a_10⟩ := cells11 (unhide A); obtain ⟨r_0, r_1, r_2, r_3, r_4, r_5, r_6, r_7, r_8, r_9, r_10⟩ := cells11 (unhide R); obtain ⟨p_0, p_1, p_2, p_3, p_4, p_5, p_6, p_7, p_8, p_9, p_10⟩ := cells11 (unhide P))
      | (go_at_call 21; refine (unhide HN2 _).mono ?_; rintro e yy ⟨rfl, zz⟩; replace P := hide (cells_nx (unhide P) zz); replace A := hide (cells_nx (unhide A) zz); replace R := hide (cells_nx (unhide R) zz); replace HB := hide (below_nx (unhide HB) zz); clear zz a_0 a_1 a_2 a_3 a_4 a_5 a_6 a_7 a_8 a_9 a_10 r_0 r_1 r_2 r_3 r_4 r_5 r_6 r_7 r_8 r_9 r_10 p_0 p_1 p_2 p_3 p_4 p_5 p_6 p_7 p_8 p_9 p_10; obtain ⟨a_0, a_1, a_2, a_3, a_4, a_5, a_6, a_7, a_8, a_9, a_10⟩ := cells11 (unhide A); obtain ⟨r_0, r_1, r_2, r_3, r_4, r_5, r_6, r_7, r_8, r_9, r_10⟩ := cells11 (unhide R); obtain ⟨p_0, p_1, p_2, p_3, p_4, p_5, p_6, p_7, p_8, p_9, p_10⟩ := cells11 (unhide P))
      | (go_at_call 22; refine (unhide HA1 _).mono ?_; rintro e yy ⟨rfl, zz⟩; replace P := hide (cells_nx (unhide P) zz); replace A := hide (cells_nx (unhide A) zz); replace R := hide (cells_nx (unhide R) zz); replace HB := hide (below_nx (unhide HB) zz); clear zz a_0 a_1 a_2 a_3 a_4 a_5 a_6 a_7 a_8 a_9 a_10 r_0 r_1 r_2 r_3 r_4 r_5 r_6 r_7 r_8 r_9 r_10 p_0 p_1 p_2 p_3 p_4 p_5 p_6 p_7 p_8 p_9 p_10; obtain ⟨a_0, a_1, a_2, a_3, a_4, a_5, a_6, a_7, a_8, a_9, a_10⟩ := cells11 (unhide A); obtain ⟨r_0, r_1, r_2, r_3, r_4, r_5, r_6, r_7, r_8, r_9, r_10⟩ := cells11 (unhide R); obtain ⟨p_0, p_1, p_2, p_3, p_4, p_5, p_6, p_7, p_8, p_9, p_10⟩ := cells11 (unhide P)))
  all_goals (try go_wp2_with fail)
  all_goals go_ret
  all_goals exact ⟨rfl, unhide HB⟩
end Go.Proofs.YtlgmpoofcdkaeaaDoor
