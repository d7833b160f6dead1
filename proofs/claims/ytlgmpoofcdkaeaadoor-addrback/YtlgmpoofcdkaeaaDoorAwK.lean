/- The walk of AddrBack. -/
import Derived.Test.YtlgmpoofcdkaeaaDoorAwB
import Derived.Test.YtlgmpoofcdkaeaaDoorAdN
namespace Go.Proofs.YtlgmpoofcdkaeaaDoor
open Go.RowKit

theorem good_bare (X : Fl) (h : goodF X = true) : goodF ⟨⟨#[]⟩, ⟨#[]⟩, X.a, X.b, X.wide⟩ = true := by
  obtain ⟨bk, sh, a, b, wd⟩ := X
  have hp := good_place _ h
  rw [goodF_mk, toL_nil ⟨#[]⟩ rfl]
  simp only [] at hp ⊢
  cases wd
  · rw [if_neg (by simp)] at hp
    rw [hp.1, hp.2]; rfl
  · rw [if_pos rfl] at hp
    rw [if_pos rfl, hp]; rfl
theorem map_low (l : List UInt8) : l.map lowC = l.map loL := rfl
theorem full_len (X : Fl) : (fullT X).length ≤ 60 := by
  cases hg : goodF X
  · unfold fullT; rw [hg]; exact (by decide : 0 ≤ 60)
  · obtain ⟨bk, sh, a, b, wd⟩ := X
    obtain ⟨z1, z2, _⟩ := good_sizes _ _ _ _ _ hg
    rw [fullT_good _ _ _ _ _ hg]
    have h1 : bk.data.toList.length = bk.size := rfl
    have h2 : sh.data.toList.length = sh.size := rfl
    have h3 := refT_len a
    have h4 := refT_len b
    rw [List.length_append, List.length_append, List.length_append]
    have e1 : (if (bk.toList == []) = true then [] else 91 :: (bk.data.toList ++ [93])).length ≤ 18 := by
      split
      · exact Nat.zero_le _
      · rw [List.length_cons, List.length_append, List.length_singleton]; omega
    have e2 : (if (sh.toList == []) = true then [] else sh.data.toList ++ [33]).length ≤ 17 := by
      split
      · exact Nat.zero_le _
      · rw [List.length_append, List.length_singleton]; omega
    have e3 : (if wd = true then 58 :: refT b else []).length ≤ 9 := by
      split
      · rw [List.length_cons]; omega
      · exact Nat.zero_le _
    omega

set_option maxRecDepth 100000 in
set_option maxHeartbeats 8000000 in
theorem back4_law (x : Fl) (w : World) (hx : x.book.size ≤ maxLen ∧ x.sheet.size ≤ maxLen) (he : Env4 w) :
    Calls Tryd.prog 6 #[.agg x.lcells] w fun e w' => e = .returned (.bool true) ∧ Below w.heap.size w w' := by
  have HE := hide he
  clear he
  have HFU := hide (fun w => fulls_law x w hx.1 hx.2)
  clear hx
  obtain ⟨X, eX⟩ : ∃ X, cutF x = X := ⟨_, rfl⟩
  rw [eX] at HFU
  clear eX
  have HWK := hide wakes4_val
  have HG1 := hide (fun w => fullGood_val X w)
  have HT1 := hide (fun w he => fullText_val X w he)
  have FE := full_empty X
  have FL := full_len X
  cases hg : goodF X
  · rw [hg] at HG1 FE
    have e : fullT X = [] := List.isEmpty_iff.1 FE
    rw [e] at HT1
    clear e FE FL hg
    unfold Fl.cells at HFU HG1 HT1
    unfold Fl.lcells at HFU ⊢
    go_enter Tryd.func6, Tryd.ntmps6
    go_upto_region 1 with fail
    have P := hide (cells_new w 25 #[.string x.book, .string x.sheet, .int .i64 x.a.col, .int .i64 x.a.row, .int .i64 x.b.col, .int .i64 x.b.row, .bool x.a.fc, .bool x.a.fr, .bool x.b.fc, .bool x.b.fr, .bool x.wide])
    have HB : Hid (Below w.heap.size w (w.alloc (.cells #[.string x.book, .string x.sheet, .int .i64 x.a.col, .int .i64 x.a.row, .int .i64 x.b.col, .int .i64 x.b.row, .bool x.a.fc, .bool x.a.fr, .bool x.b.fc, .bool x.b.fr, .bool x.wide] 25))) := hide (below_al _ _)
    generalize hW : w.alloc (.cells #[.string x.book, .string x.sheet, .int .i64 x.a.col, .int .i64 x.a.row, .int .i64 x.b.col, .int .i64 x.b.row, .bool x.a.fc, .bool x.a.fr, .bool x.b.fc, .bool x.b.fr, .bool x.wide] 25) = W0 at P HB ⊢
    clear hW
    obtain ⟨p_0, p_1, p_2, p_3, p_4, p_5, p_6, p_7, p_8, p_9, p_10⟩ := cells11 (unhide P)
    go_wp2_with fail
    refine (unhide HFU _).mono ?_
    rintro e wk1 ⟨rfl, bk1⟩
    replace P := hide (cells_nx (unhide P) bk1)
    replace HB := hide (below_nx (unhide HB) bk1)
    clear bk1
    clear p_0 p_1 p_2 p_3 p_4 p_5 p_6 p_7 p_8 p_9 p_10
    have hz_a := (unhide HB).size
    go_upto_region 2 with fail
    have A := hide (cells_al (cells_new wk1 31 #[.string X.book, .string X.sheet, .int .i64 X.a.col, .int .i64 X.a.row, .bool X.a.fc, .bool X.a.fr, .int .i64 X.b.col, .int .i64 X.b.row, .bool X.b.fc, .bool X.b.fr, .bool X.wide]) (.cells #[.string X.book, .string X.sheet, .int .i64 X.a.col, .int .i64 X.a.row, .bool X.a.fc, .bool X.a.fr, .int .i64 X.b.col, .int .i64 X.b.row, .bool X.b.fc, .bool X.b.fr, .bool X.wide] 35))
    have R := hide (cells_new2 wk1 (.cells #[.string X.book, .string X.sheet, .int .i64 X.a.col, .int .i64 X.a.row, .bool X.a.fc, .bool X.a.fr, .int .i64 X.b.col, .int .i64 X.b.row, .bool X.b.fc, .bool X.b.fr, .bool X.wide] 31) 35 #[.string X.book, .string X.sheet, .int .i64 X.a.col, .int .i64 X.a.row, .bool X.a.fc, .bool X.a.fr, .int .i64 X.b.col, .int .i64 X.b.row, .bool X.b.fc, .bool X.b.fr, .bool X.wide])
    replace P := hide (cells_al (cells_al (unhide P) (.cells #[.string X.book, .string X.sheet, .int .i64 X.a.col, .int .i64 X.a.row, .bool X.a.fc, .bool X.a.fr, .int .i64 X.b.col, .int .i64 X.b.row, .bool X.b.fc, .bool X.b.fr, .bool X.wide] 31)) (.cells #[.string X.book, .string X.sheet, .int .i64 X.a.col, .int .i64 X.a.row, .bool X.a.fc, .bool X.a.fr, .int .i64 X.b.col, .int .i64 X.b.row, .bool X.b.fc, .bool X.b.fr, .bool X.wide] 35))
    replace HB := hide (((unhide HB).alloc (unhide HB).size (.cells #[.string X.book, .string X.sheet, .int .i64 X.a.col, .int .i64 X.a.row, .bool X.a.fc, .bool X.a.fr, .int .i64 X.b.col, .int .i64 X.b.row, .bool X.b.fc, .bool X.b.fr, .bool X.wide] 31)).alloc (by have := (unhide HB).size; simp; omega) (.cells #[.string X.book, .string X.sheet, .int .i64 X.a.col, .int .i64 X.a.row, .bool X.a.fc, .bool X.a.fr, .int .i64 X.b.col, .int .i64 X.b.row, .bool X.b.fc, .bool X.b.fr, .bool X.wide] 35))
    generalize hW : (wk1.alloc (.cells #[.string X.book, .string X.sheet, .int .i64 X.a.col, .int .i64 X.a.row, .bool X.a.fc, .bool X.a.fr, .int .i64 X.b.col, .int .i64 X.b.row, .bool X.b.fc, .bool X.b.fr, .bool X.wide] 31)).alloc (.cells #[.string X.book, .string X.sheet, .int .i64 X.a.col, .int .i64 X.a.row, .bool X.a.fc, .bool X.a.fr, .int .i64 X.b.col, .int .i64 X.b.row, .bool X.b.fc, .bool X.b.fr, .bool X.wide] 35) = WF1 at A R P HB ⊢
    clear hW
    obtain ⟨a_0, a_1, a_2, a_3, a_4, a_5, a_6, a_7, a_8, a_9, a_10⟩ := cells11 (unhide A)
    go_wp2_with fail
    refine (unhide HT1 _ ((unhide HE).below (unhide HB))).mono ?_
    rintro e wk2 ⟨rfl, bk2⟩
    replace P := hide (cells_nx (unhide P) bk2)
    replace A := hide (cells_nx (unhide A) bk2)
    replace R := hide (cells_nx (unhide R) bk2)
    replace HB := hide (below_nx (unhide HB) bk2)
    clear bk2
    clear a_0 a_1 a_2 a_3 a_4 a_5 a_6 a_7 a_8 a_9 a_10
    go_wp2_with fail
    refine (unhide HWK _ ((unhide HE).below (unhide HB))).mono ?_
    rintro e wk3 ⟨rfl, bk3⟩
    replace P := hide (cells_nx (unhide P) bk3)
    replace A := hide (cells_nx (unhide A) bk3)
    replace R := hide (cells_nx (unhide R) bk3)
    replace HB := hide (below_nx (unhide HB) bk3)
    clear bk3
    go_wp2_with fail
    refine (unhide HWK _ ((unhide HE).below (unhide HB))).mono ?_
    rintro e wk4 ⟨rfl, bk4⟩
    replace P := hide (cells_nx (unhide P) bk4)
    replace A := hide (cells_nx (unhide A) bk4)
    replace R := hide (cells_nx (unhide R) bk4)
    replace HB := hide (below_nx (unhide HB) bk4)
    clear bk4
    obtain ⟨a_0, a_1, a_2, a_3, a_4, a_5, a_6, a_7, a_8, a_9, a_10⟩ := cells11 (unhide A)
    go_wp2_with fail
    refine (unhide HG1 _).mono ?_
    rintro e wk5 ⟨rfl, bk5⟩
    replace P := hide (cells_nx (unhide P) bk5)
    replace A := hide (cells_nx (unhide A) bk5)
    replace R := hide (cells_nx (unhide R) bk5)
    replace HB := hide (below_nx (unhide HB) bk5)
    clear bk5
    clear a_0 a_1 a_2 a_3 a_4 a_5 a_6 a_7 a_8 a_9 a_10
    go_wp2
    go_ret
    exact ⟨rfl, unhide HB⟩
  · rw [hg] at FE
    have e1 := toL_cons ⟨(fullT X).toArray⟩ (by show fullT X ≠ []; intro e; rw [e] at FE; cases FE)
    have hy := good_bare X hg
    have gc := (good_cells X hg).1
    have HP1 : Hid (∀ w, Env4 w → Calls Tryd.prog 28 #[.string ⟨(fullT X).toArray⟩] w fun e w' => e = .returned (.tuple #[.agg X.cells, .int .i64 0]) ∧ Below w.heap.size w w') := hide (fun w he => by
      have h := parse4_val ⟨(fullT X).toArray⟩ w (by show (fullT X).length < _; omega) he
      rw [show (⟨(fullT X).toArray⟩ : ByteArray).data.toList = fullT X from rfl, parse_back X hg] at h
      exact h)
    have HR1 := hide (fun w he => refText_val X.a w he)
    have HP2 : Hid (∀ w, Calls Tryd.prog 26 #[.string ⟨(refT X.a).toArray⟩] w fun e w' => e = .returned (.tuple #[.agg X.a.cells, .int .i64 0]) ∧ Below w.heap.size w w') := hide (fun w => by
      have h := parseRef_val ⟨(refT X.a).toArray⟩ w (by show (refT X.a).length ≤ _; have := refT_len X.a; omega)
      rw [show (⟨(refT X.a).toArray⟩ : ByteArray).data.toList = refT X.a from rfl, refP_back X.a gc] at h
      exact h)
    obtain ⟨Y, hY⟩ : ∃ Y : Fl, Y = ⟨⟨#[]⟩, ⟨#[]⟩, X.a, X.b, X.wide⟩ := ⟨_, rfl⟩
    have HTY := hide (fun w he => fullText_val Y w he)
    have hU := full_len Y
    have HPL : Hid (∀ w, Env4 w → Calls Tryd.prog 28 #[.string (mapB lowC ⟨(fullT Y).toArray⟩)] w fun e w' => e = .returned (.tuple #[.agg Y.cells, .int .i64 0]) ∧ Below w.heap.size w w') := hide (fun w he => by
      have h := parse4_val (mapB lowC ⟨(fullT Y).toArray⟩) w (by rw [mapB_size]; show (fullT Y).length < _; omega) he
      rw [show (mapB lowC ⟨(fullT Y).toArray⟩).data.toList = (fullT Y).map loL from rfl, low_back Y (by rw [hY]; exact hy) (by rw [hY]) (by rw [hY])] at h
      exact h)
    replace hU : (⟨(fullT Y).toArray⟩ : ByteArray).size ≤ 60 := hU
    generalize (⟨(fullT Y).toArray⟩ : ByteArray) = U at HTY hU HPL
    generalize (⟨(fullT X).toArray⟩ : ByteArray) = T at HT1 HP1 e1
    generalize (⟨(refT X.a).toArray⟩ : ByteArray) = RT at HR1 HP2
    subst hY
    unfold Fl.cells at HFU HG1 HT1 HP1 HTY HPL
    unfold Rf.cells at HR1 HP2
    unfold Fl.lcells at HFU ⊢
    simp only [] at HTY HPL
    have hq1 := fun w => rf_eq_self X.a.col X.a.row X.a.fc X.a.fr w
    have hq2 := fun w => full_eq_self ⟨#[]⟩ ⟨#[]⟩ X.a.col X.a.row X.a.fc X.a.fr X.b.col X.b.row X.b.fc X.b.fr X.wide w
    clear FE FL hg hy gc
    go_enter Tryd.func6, Tryd.ntmps6
    go_upto_region 1 with fail
    have P := hide (cells_new w 25 #[.string x.book, .string x.sheet, .int .i64 x.a.col, .int .i64 x.a.row, .int .i64 x.b.col, .int .i64 x.b.row, .bool x.a.fc, .bool x.a.fr, .bool x.b.fc, .bool x.b.fr, .bool x.wide])
    have HB : Hid (Below w.heap.size w (w.alloc (.cells #[.string x.book, .string x.sheet, .int .i64 x.a.col, .int .i64 x.a.row, .int .i64 x.b.col, .int .i64 x.b.row, .bool x.a.fc, .bool x.a.fr, .bool x.b.fc, .bool x.b.fr, .bool x.wide] 25))) := hide (below_al _ _)
    generalize hW : w.alloc (.cells #[.string x.book, .string x.sheet, .int .i64 x.a.col, .int .i64 x.a.row, .int .i64 x.b.col, .int .i64 x.b.row, .bool x.a.fc, .bool x.a.fr, .bool x.b.fc, .bool x.b.fr, .bool x.wide] 25) = W0 at P HB ⊢
    clear hW
    obtain ⟨p_0, p_1, p_2, p_3, p_4, p_5, p_6, p_7, p_8, p_9, p_10⟩ := cells11 (unhide P)
    go_wp2_with fail
    refine (unhide HFU _).mono ?_
    rintro e wk1 ⟨rfl, bk1⟩
    replace P := hide (cells_nx (unhide P) bk1)
    replace HB := hide (below_nx (unhide HB) bk1)
    clear bk1
    clear p_0 p_1 p_2 p_3 p_4 p_5 p_6 p_7 p_8 p_9 p_10
    have hz_a := (unhide HB).size
    go_upto_region 2 with fail
    have A := hide (cells_al (cells_new wk1 31 #[.string X.book, .string X.sheet, .int .i64 X.a.col, .int .i64 X.a.row, .bool X.a.fc, .bool X.a.fr, .int .i64 X.b.col, .int .i64 X.b.row, .bool X.b.fc, .bool X.b.fr, .bool X.wide]) (.cells #[.string X.book, .string X.sheet, .int .i64 X.a.col, .int .i64 X.a.row, .bool X.a.fc, .bool X.a.fr, .int .i64 X.b.col, .int .i64 X.b.row, .bool X.b.fc, .bool X.b.fr, .bool X.wide] 35))
    have R := hide (cells_new2 wk1 (.cells #[.string X.book, .string X.sheet, .int .i64 X.a.col, .int .i64 X.a.row, .bool X.a.fc, .bool X.a.fr, .int .i64 X.b.col, .int .i64 X.b.row, .bool X.b.fc, .bool X.b.fr, .bool X.wide] 31) 35 #[.string X.book, .string X.sheet, .int .i64 X.a.col, .int .i64 X.a.row, .bool X.a.fc, .bool X.a.fr, .int .i64 X.b.col, .int .i64 X.b.row, .bool X.b.fc, .bool X.b.fr, .bool X.wide])
    replace P := hide (cells_al (cells_al (unhide P) (.cells #[.string X.book, .string X.sheet, .int .i64 X.a.col, .int .i64 X.a.row, .bool X.a.fc, .bool X.a.fr, .int .i64 X.b.col, .int .i64 X.b.row, .bool X.b.fc, .bool X.b.fr, .bool X.wide] 31)) (.cells #[.string X.book, .string X.sheet, .int .i64 X.a.col, .int .i64 X.a.row, .bool X.a.fc, .bool X.a.fr, .int .i64 X.b.col, .int .i64 X.b.row, .bool X.b.fc, .bool X.b.fr, .bool X.wide] 35))
    replace HB := hide (((unhide HB).alloc (unhide HB).size (.cells #[.string X.book, .string X.sheet, .int .i64 X.a.col, .int .i64 X.a.row, .bool X.a.fc, .bool X.a.fr, .int .i64 X.b.col, .int .i64 X.b.row, .bool X.b.fc, .bool X.b.fr, .bool X.wide] 31)).alloc (by have := (unhide HB).size; simp; omega) (.cells #[.string X.book, .string X.sheet, .int .i64 X.a.col, .int .i64 X.a.row, .bool X.a.fc, .bool X.a.fr, .int .i64 X.b.col, .int .i64 X.b.row, .bool X.b.fc, .bool X.b.fr, .bool X.wide] 35))
    generalize hW : (wk1.alloc (.cells #[.string X.book, .string X.sheet, .int .i64 X.a.col, .int .i64 X.a.row, .bool X.a.fc, .bool X.a.fr, .int .i64 X.b.col, .int .i64 X.b.row, .bool X.b.fc, .bool X.b.fr, .bool X.wide] 31)).alloc (.cells #[.string X.book, .string X.sheet, .int .i64 X.a.col, .int .i64 X.a.row, .bool X.a.fc, .bool X.a.fr, .int .i64 X.b.col, .int .i64 X.b.row, .bool X.b.fc, .bool X.b.fr, .bool X.wide] 35) = WF1 at A R P HB ⊢
    clear hW
    obtain ⟨a_0, a_1, a_2, a_3, a_4, a_5, a_6, a_7, a_8, a_9, a_10⟩ := cells11 (unhide A)
    go_wp2_with fail
    refine (unhide HT1 _ ((unhide HE).below (unhide HB))).mono ?_
    rintro e wk2 ⟨rfl, bk2⟩
    replace P := hide (cells_nx (unhide P) bk2)
    replace A := hide (cells_nx (unhide A) bk2)
    replace R := hide (cells_nx (unhide R) bk2)
    replace HB := hide (below_nx (unhide HB) bk2)
    clear bk2
    clear a_0 a_1 a_2 a_3 a_4 a_5 a_6 a_7 a_8 a_9 a_10
    go_wp2_with fail
    refine (unhide HWK _ ((unhide HE).below (unhide HB))).mono ?_
    rintro e wk3 ⟨rfl, bk3⟩
    replace P := hide (cells_nx (unhide P) bk3)
    replace A := hide (cells_nx (unhide A) bk3)
    replace R := hide (cells_nx (unhide R) bk3)
    replace HB := hide (below_nx (unhide HB) bk3)
    clear bk3
    go_wp2_with fail
    refine (unhide HP1 _ ((unhide HE).below (unhide HB))).mono ?_
    rintro e wk4 ⟨rfl, bk4⟩
    replace P := hide (cells_nx (unhide P) bk4)
    replace A := hide (cells_nx (unhide A) bk4)
    replace R := hide (cells_nx (unhide R) bk4)
    replace HB := hide (below_nx (unhide HB) bk4)
    clear bk4
    have hr_ff := cells_lt (unhide A)
    go_upto_region 6 with fail
    have FF := hide (cells_new wk4 31 #[.string X.book, .string X.sheet, .int .i64 X.a.col, .int .i64 X.a.row, .bool X.a.fc, .bool X.a.fr, .int .i64 X.b.col, .int .i64 X.b.row, .bool X.b.fc, .bool X.b.fr, .bool X.wide])
    replace P := hide (cells_al (unhide P) (.cells #[.string X.book, .string X.sheet, .int .i64 X.a.col, .int .i64 X.a.row, .bool X.a.fc, .bool X.a.fr, .int .i64 X.b.col, .int .i64 X.b.row, .bool X.b.fc, .bool X.b.fr, .bool X.wide] 31))
    replace A := hide (cells_al (unhide A) (.cells #[.string X.book, .string X.sheet, .int .i64 X.a.col, .int .i64 X.a.row, .bool X.a.fc, .bool X.a.fr, .int .i64 X.b.col, .int .i64 X.b.row, .bool X.b.fc, .bool X.b.fr, .bool X.wide] 31))
    replace R := hide (cells_al (unhide R) (.cells #[.string X.book, .string X.sheet, .int .i64 X.a.col, .int .i64 X.a.row, .bool X.a.fc, .bool X.a.fr, .int .i64 X.b.col, .int .i64 X.b.row, .bool X.b.fc, .bool X.b.fr, .bool X.wide] 31))
    replace HB := hide ((unhide HB).alloc (unhide HB).size (.cells #[.string X.book, .string X.sheet, .int .i64 X.a.col, .int .i64 X.a.row, .bool X.a.fc, .bool X.a.fr, .int .i64 X.b.col, .int .i64 X.b.row, .bool X.b.fc, .bool X.b.fr, .bool X.wide] 31))
    generalize hW : wk4.alloc (.cells #[.string X.book, .string X.sheet, .int .i64 X.a.col, .int .i64 X.a.row, .bool X.a.fc, .bool X.a.fr, .int .i64 X.b.col, .int .i64 X.b.row, .bool X.b.fc, .bool X.b.fr, .bool X.wide] 31) = WnFF at FF P A R HB ⊢
    clear hW
    obtain ⟨a_0, a_1, a_2, a_3, a_4, a_5, a_6, a_7, a_8, a_9, a_10⟩ := cells11 (unhide A)
    go_wp2_with fail
    refine (unhide HR1 _ ((unhide HE).below (unhide HB))).mono ?_
    rintro e wk5 ⟨rfl, bk5⟩
    replace P := hide (cells_nx (unhide P) bk5)
    replace A := hide (cells_nx (unhide A) bk5)
    replace R := hide (cells_nx (unhide R) bk5)
    replace FF := hide (cells_nx (unhide FF) bk5)
    replace HB := hide (below_nx (unhide HB) bk5)
    clear bk5
    clear a_0 a_1 a_2 a_3 a_4 a_5 a_6 a_7 a_8 a_9 a_10
    go_wp2_with fail
    refine (unhide HP2 _).mono ?_
    rintro e wk6 ⟨rfl, bk6⟩
    replace P := hide (cells_nx (unhide P) bk6)
    replace A := hide (cells_nx (unhide A) bk6)
    replace R := hide (cells_nx (unhide R) bk6)
    replace FF := hide (cells_nx (unhide FF) bk6)
    replace HB := hide (below_nx (unhide HB) bk6)
    clear bk6
    have hr_q := cells_lt (unhide A)
    go_upto_region 7 with fail
    have Q := hide (cells_new wk6 29 #[.int .i64 X.a.col, .int .i64 X.a.row, .bool X.a.fc, .bool X.a.fr])
    replace P := hide (cells_al (unhide P) (.cells #[.int .i64 X.a.col, .int .i64 X.a.row, .bool X.a.fc, .bool X.a.fr] 29))
    replace A := hide (cells_al (unhide A) (.cells #[.int .i64 X.a.col, .int .i64 X.a.row, .bool X.a.fc, .bool X.a.fr] 29))
    replace R := hide (cells_al (unhide R) (.cells #[.int .i64 X.a.col, .int .i64 X.a.row, .bool X.a.fc, .bool X.a.fr] 29))
    replace FF := hide (cells_al (unhide FF) (.cells #[.int .i64 X.a.col, .int .i64 X.a.row, .bool X.a.fc, .bool X.a.fr] 29))
    replace HB := hide ((unhide HB).alloc (unhide HB).size (.cells #[.int .i64 X.a.col, .int .i64 X.a.row, .bool X.a.fc, .bool X.a.fr] 29))
    generalize hW : wk6.alloc (.cells #[.int .i64 X.a.col, .int .i64 X.a.row, .bool X.a.fc, .bool X.a.fr] 29) = WnQ at Q P A R FF HB ⊢
    clear hW
    have hlA := cells_lt (unhide A)
    obtain ⟨a_0, a_1, a_2, a_3, a_4, a_5, a_6, a_7, a_8, a_9, a_10⟩ := cells11 (unhide A)
    have fz_a_0 := cells_f (unhide A) 0
    have fz_a_1 := cells_f (unhide A) 1
    go_upto_region 8 with fail
    clear a_0 a_1 a_2 a_3 a_4 a_5 a_6 a_7 a_8 a_9 a_10
    clear fz_a_0 fz_a_1
    replace A : Hid (CellsAt ((WnQ.setCell ⟨wk1.heap.size, 0, none⟩ (.string ⟨#[]⟩)).setCell ⟨wk1.heap.size, 1, none⟩ (.string ⟨#[]⟩)) (wk1.heap.size) 31 #[.string ⟨#[]⟩, .string ⟨#[]⟩, .int .i64 X.a.col, .int .i64 X.a.row, .bool X.a.fc, .bool X.a.fr, .int .i64 X.b.col, .int .i64 X.b.row, .bool X.b.fc, .bool X.b.fr, .bool X.wide]) := hide (cells_set (cells_set (unhide A) 0 (.string ⟨#[]⟩)) 1 (.string ⟨#[]⟩))
    have hnF : wk4.heap.size ≠ wk1.heap.size := by omega
    have hnQ : wk6.heap.size ≠ wk1.heap.size := by omega
    replace FF := hide (cells_set_far (cells_set_far (unhide FF) hnF 0 (.string ⟨#[]⟩)) hnF 1 (.string ⟨#[]⟩))
    replace Q := hide (cells_set_far (cells_set_far (unhide Q) hnQ 0 (.string ⟨#[]⟩)) hnQ 1 (.string ⟨#[]⟩))
    replace HB := hide (below_set (B := wk1.heap.size) (i := 1) (below_set (B := wk1.heap.size) (i := 0) (unhide HB) (by omega) (.string ⟨#[]⟩)) (by omega) (.string ⟨#[]⟩))
    clear P R
    generalize hW : (WnQ.setCell ⟨wk1.heap.size, 0, none⟩ (.string ⟨#[]⟩)).setCell ⟨wk1.heap.size, 1, none⟩ (.string ⟨#[]⟩) = WY at A FF Q HB ⊢
    clear hW
    obtain ⟨a_0, a_1, a_2, a_3, a_4, a_5, a_6, a_7, a_8, a_9, a_10⟩ := cells11 (unhide A)
    go_wp2_with fail
    refine (unhide HTY _ ((unhide HE).below (unhide HB))).mono ?_
    rintro e wk7 ⟨rfl, bk7⟩
    replace A := hide (cells_nx (unhide A) bk7)
    replace FF := hide (cells_nx (unhide FF) bk7)
    replace Q := hide (cells_nx (unhide Q) bk7)
    replace HB := hide (below_nx (unhide HB) bk7)
    clear bk7
    clear a_0 a_1 a_2 a_3 a_4 a_5 a_6 a_7 a_8 a_9 a_10
    have hc := run_bytes_of_string (P := Tryd.prog) wk7 9 67 5 U Tryd.underlying9 Tryd.underlying67 Tryd.underlying5
    obtain ⟨c, hcc⟩ : ∃ c, grownCap wk7 U.size 0 5 = c := ⟨_, rfl⟩
    rw [hcc] at hc
    clear hcc
    have HT := hide (turn_start lowC U wk7 c)
    have HBW : Hid (Below wk7.heap.size wk7 (wk7.drew.alloc (.cells (bytesRow U c) 5 ((bytesRow U c).size, (bytesRow U c).size + 1)))) := hide ((Below.refl _ _).drew.alloc (Nat.le_refl _) _)
    obtain ⟨w0, hw0⟩ : ∃ w0, wk7.drew.alloc (.cells (bytesRow U c) 5 ((bytesRow U c).size, (bytesRow U c).size + 1)) = w0 := ⟨_, rfl⟩
    rw [hw0] at hc HT HBW
    clear hw0
    obtain ⟨n, hn⟩ : ∃ n, U.size = n := ⟨_, rfl⟩
    rw [hn] at hc hU
    have HN := hide hn
    clear hn
    go_wp2
    clear hc
    go_loopw [53] (fun t wr => ∃ i : Nat, t = .int .i64 (i : Int) ∧ i ≤ n ∧ Hid (TurnAt lowC U wr wk7.heap.size i) ∧ Hid (Below wk7.heap.size wk7 wr)) (fun t _ => n - (intOf t).toNat)
    case atStart => exact ⟨0, rfl, by omega, HT, HBW⟩
    case round =>
      clear HT HBW
      obtain ⟨i, rfl, hi, HT, HBW⟩ := hrel
      by_cases hin : i < n
      · obtain ⟨c0, f0⟩ := (unhide HT).2 i (by have := unhide HN; omega)
        rw [if_neg (by omega)] at c0
        obtain ⟨x, hx⟩ : ∃ x, byteAt U i = x := ⟨_, rfl⟩
        have hx8 : x.toNat < 256 := x.toNat_lt
        rw [hx] at c0
        have HX := hide hx
        obtain ⟨k, hk⟩ : ∃ k : Nat, x.toNat = k := ⟨_, rfl⟩
        rw [hk] at c0 hx8
        have HK := hide hk
        clear hx hk
        by_cases h1 : 65 ≤ k
        · by_cases h2 : k ≤ 90
          · have TS : Hid (TurnAt lowC U (wr.setCell ⟨wk7.heap.size, i, none⟩ (.int .u8 ((k : Int) + 32))) wk7.heap.size (i + 1)) := hide (by
              have h := turn_set (unhide HT) (by have := unhide HN; omega)
              rw [unhide HX] at h
              have e : ((lowC x).toNat : Int) = (k : Int) + 32 := by
                unfold lowC
                rw [unhide HK, if_pos ⟨h1, h2⟩, UInt8.toNat_ofNat']
                omega
              rw [e] at h
              exact h)
            have HB2 := hide ((unhide HBW).setCell (p := ⟨wk7.heap.size, i, none⟩) (Nat.le_refl _) (.int .u8 ((k : Int) + 32)))
            go_wp2
            go_roundw
            case rel => exact ⟨i + 1, by go_num, by omega, TS, HB2⟩
            case measure => simp [intOf]; omega
          · have TS := hide (turn_same (unhide HT) (by rw [unhide HX]; unfold lowC; rw [unhide HK, if_neg (by omega)]))
            have d2 : decide ((k : Int) ≤ 90) = false := decide_eq_false (by omega)
            go_wp2
            go_roundw
            case rel => exact ⟨i + 1, by go_num, by omega, TS, HBW⟩
            case measure => simp [intOf]; omega
        · have TS := hide (turn_same (unhide HT) (by rw [unhide HX]; unfold lowC; rw [unhide HK, if_neg (by omega)]))
          have d1 : decide (65 ≤ (k : Int)) = false := decide_eq_false (by omega)
          go_wp2
          go_roundw
          case rel => exact ⟨i + 1, by go_num, by omega, TS, HBW⟩
          case measure => simp [intOf]; omega
      · have hb := turn_end (unhide HT) (by have := unhide HN; omega) c
        rw [unhide HN] at hb
        replace A := hide (cells_nx (unhide A) (unhide HBW))
        replace FF := hide (cells_nx (unhide FF) (unhide HBW))
        replace Q := hide (cells_nx (unhide Q) (unhide HBW))
        replace HB := hide (below_nx (unhide HB) (unhide HBW))
        clear HBW HT
        go_wp2_with fail
        refine (unhide HPL _ ((unhide HE).below (unhide HB))).mono ?_
        rintro e wk18 ⟨rfl, bk18⟩
        replace A := hide (cells_nx (unhide A) bk18)
        replace FF := hide (cells_nx (unhide FF) bk18)
        replace Q := hide (cells_nx (unhide Q) bk18)
        replace HB := hide (below_nx (unhide HB) bk18)
        clear bk18
        clear hb
        have hr_h := cells_lt (unhide A)
        go_upto_region 16 with fail
        have H := hide (cells_new wk18 31 #[.string ⟨#[]⟩, .string ⟨#[]⟩, .int .i64 X.a.col, .int .i64 X.a.row, .bool X.a.fc, .bool X.a.fr, .int .i64 X.b.col, .int .i64 X.b.row, .bool X.b.fc, .bool X.b.fr, .bool X.wide])
        replace A := hide (cells_al (unhide A) (.cells #[.string ⟨#[]⟩, .string ⟨#[]⟩, .int .i64 X.a.col, .int .i64 X.a.row, .bool X.a.fc, .bool X.a.fr, .int .i64 X.b.col, .int .i64 X.b.row, .bool X.b.fc, .bool X.b.fr, .bool X.wide] 31))
        replace FF := hide (cells_al (unhide FF) (.cells #[.string ⟨#[]⟩, .string ⟨#[]⟩, .int .i64 X.a.col, .int .i64 X.a.row, .bool X.a.fc, .bool X.a.fr, .int .i64 X.b.col, .int .i64 X.b.row, .bool X.b.fc, .bool X.b.fr, .bool X.wide] 31))
        replace Q := hide (cells_al (unhide Q) (.cells #[.string ⟨#[]⟩, .string ⟨#[]⟩, .int .i64 X.a.col, .int .i64 X.a.row, .bool X.a.fc, .bool X.a.fr, .int .i64 X.b.col, .int .i64 X.b.row, .bool X.b.fc, .bool X.b.fr, .bool X.wide] 31))
        replace HB := hide ((unhide HB).alloc (unhide HB).size (.cells #[.string ⟨#[]⟩, .string ⟨#[]⟩, .int .i64 X.a.col, .int .i64 X.a.row, .bool X.a.fc, .bool X.a.fr, .int .i64 X.b.col, .int .i64 X.b.row, .bool X.b.fc, .bool X.b.fr, .bool X.wide] 31))
        generalize hW : wk18.alloc (.cells #[.string ⟨#[]⟩, .string ⟨#[]⟩, .int .i64 X.a.col, .int .i64 X.a.row, .bool X.a.fc, .bool X.a.fr, .int .i64 X.b.col, .int .i64 X.b.row, .bool X.b.fc, .bool X.b.fr, .bool X.wide] 31) = WnH at H A FF Q HB ⊢
        clear hW
        obtain ⟨ff_0, ff_1, ff_2, ff_3, ff_4, ff_5, ff_6, ff_7, ff_8, ff_9, ff_10⟩ := cells11 (unhide FF)
        go_wp2_with fail
        refine (unhide HT1 _ ((unhide HE).below (unhide HB))).mono ?_
        rintro e wk19 ⟨rfl, bk19⟩
        replace A := hide (cells_nx (unhide A) bk19)
        replace FF := hide (cells_nx (unhide FF) bk19)
        replace Q := hide (cells_nx (unhide Q) bk19)
        replace H := hide (cells_nx (unhide H) bk19)
        replace HB := hide (below_nx (unhide HB) bk19)
        clear bk19
        clear ff_0 ff_1 ff_2 ff_3 ff_4 ff_5 ff_6 ff_7 ff_8 ff_9 ff_10
        obtain ⟨ff_0, ff_1, ff_2, ff_3, ff_4, ff_5, ff_6, ff_7, ff_8, ff_9, ff_10⟩ := cells11 (unhide FF)
        obtain ⟨q_0, q_1, q_2, q_3⟩ := cells4 (unhide Q)
        obtain ⟨a_0, a_1, a_2, a_3, a_4, a_5, a_6, a_7, a_8, a_9, a_10⟩ := cells11 (unhide A)
        obtain ⟨h_0, h_1, h_2, h_3, h_4, h_5, h_6, h_7, h_8, h_9, h_10⟩ := cells11 (unhide H)
        go_wp2
        go_ret
        exact ⟨rfl, unhide HB⟩
end Go.Proofs.YtlgmpoofcdkaeaaDoor
