/- The contracts of Text of a reference, of both. -/
import Derived.Test.YtlgmpoofcdkaeaaDoorAdM
namespace Go.Proofs.YtlgmpoofcdkaeaaDoor
open Go.RowKit

theorem ba_ext {x y : ByteArray} (h : x.data.toList = y.data.toList) : x = y := by
  apply ByteArray.ext
  exact Array.toList_inj.1 h
/-- The parts of a good reference's text. -/
theorem fullT_good (bk sh : ByteArray) (a b : Rf) (wd : Bool) (h : goodF ⟨bk, sh, a, b, wd⟩ = true) :
    fullT ⟨bk, sh, a, b, wd⟩ = (if (bk.toList == []) = true then [] else 91 :: (bk.data.toList ++ [93])) ++ ((if (sh.toList == []) = true then [] else sh.data.toList ++ [33]) ++ (refT a ++ (if wd = true then 58 :: refT b else []))) := by
  unfold fullT
  rw [if_pos h]
  unfold bookT sheetT
  rw [empty_l, empty_l]
theorem name_len (l : List UInt8) (h : nameG l = true) : l.length ≤ 16 := by
  unfold nameG at h
  rw [Bool.and_eq_true, Bool.and_eq_true, Bool.and_eq_true] at h
  exact of_decide_eq_true h.1.1.2
theorem good_sizes (bk sh : ByteArray) (a b : Rf) (wd : Bool) (h : goodF ⟨bk, sh, a, b, wd⟩ = true) : bk.size ≤ 16 ∧ sh.size ≤ 16 ∧ ((sh.toList == []) = true → (bk.toList == []) = true) := by
  rw [goodF_mk, Bool.and_eq_true, Bool.and_eq_true, Bool.or_eq_true, Bool.or_eq_true, Bool.and_eq_true] at h
  have z : ∀ s : ByteArray, (s.toList == []) = true → s.size ≤ 16 := fun s hs => by
    rw [← empty_l, List.isEmpty_iff] at hs
    show s.data.toList.length ≤ 16
    rw [hs]; decide
  obtain ⟨⟨h1, h2⟩, _⟩ := h
  refine ⟨?_, ?_, fun hs => ?_⟩
  · rcases h2 with h2 | h2
    · exact z _ h2
    · exact name_len _ h2.2
  · rcases h1 with h1 | h1
    · exact z _ h1
    · exact name_len _ h1
  · rcases h2 with h2 | h2
    · exact h2
    · rw [hs] at h2; cases h2.1

set_option maxRecDepth 100000 in
set_option maxHeartbeats 4000000 in
theorem fullText_val (f : Fl) (w : World) (he : Env4 w) :
    Calls Tryd.prog 14 #[.agg f.cells] w fun e w' => e = .returned (.string ⟨(fullT f).toArray⟩) ∧ Below w.heap.size w w' := by
  have HE := hide he
  clear he
  have HG := hide (fun w => fullGood_val f w)
  cases hg : goodF f
  · have e : fullT f = [] := by unfold fullT; rw [hg]; rfl
    rw [e]
    rw [hg] at HG
    clear e hg
    obtain ⟨bk, sh, ⟨c1, r1, f1, g1⟩, ⟨c2, r2, f2, g2⟩, wd⟩ := f
    unfold Fl.cells at HG ⊢
    simp only [] at HG ⊢
    go_enter Tryd.func14, Tryd.ntmps14
    go_upto_region 1 with fail
    have P := hide (cells_new w 31 #[.string bk, .string sh, .int .i64 c1, .int .i64 r1, .bool f1, .bool g1, .int .i64 c2, .int .i64 r2, .bool f2, .bool g2, .bool wd])
    have HB : Hid (Below w.heap.size w (w.alloc (.cells #[.string bk, .string sh, .int .i64 c1, .int .i64 r1, .bool f1, .bool g1, .int .i64 c2, .int .i64 r2, .bool f2, .bool g2, .bool wd] 31))) := hide (below_al _ _)
    generalize hW : w.alloc (.cells #[.string bk, .string sh, .int .i64 c1, .int .i64 r1, .bool f1, .bool g1, .int .i64 c2, .int .i64 r2, .bool f2, .bool g2, .bool wd] 31) = W0 at P HB ⊢
    clear hW
    obtain ⟨p_0, p_1, p_2, p_3, p_4, p_5, p_6, p_7, p_8, p_9, p_10⟩ := cells11 (unhide P)
    go_wp2_with fail
    refine (unhide HG _).mono ?_
    rintro e wk1 ⟨rfl, bk1⟩
    replace P := hide (cells_nx (unhide P) bk1)
    replace HB := hide (below_nx (unhide HB) bk1)
    clear bk1
    clear p_0 p_1 p_2 p_3 p_4 p_5 p_6 p_7 p_8 p_9 p_10
    go_wp2
    go_ret
    exact ⟨rfl, unhide HB⟩
  · rw [hg] at HG
    obtain ⟨bk, sh, ⟨c1, r1, f1, g1⟩, ⟨c2, r2, f2, g2⟩, wd⟩ := f
    have HGG := hide hg
    obtain ⟨z1, z2, z3⟩ := good_sizes _ _ _ _ _ hg
    clear hg
    unfold Fl.cells at HG ⊢
    simp only [] at HG ⊢
    have HA := hide (fun w he => refText_val ⟨c1, r1, f1, g1⟩ w he)
    have HBB := hide (fun w he => refText_val ⟨c2, r2, f2, g2⟩ w he)
    unfold Rf.cells at HA HBB
    have za : (⟨(refT ⟨c1, r1, f1, g1⟩).toArray⟩ : ByteArray).size ≤ 8 := refT_len ⟨c1, r1, f1, g1⟩
    have zb : (⟨(refT ⟨c2, r2, f2, g2⟩).toArray⟩ : ByteArray).size ≤ 8 := refT_len ⟨c2, r2, f2, g2⟩
    cases eS : (sh.toList == [])
    · clear z3
      cases eB : (bk.toList == [])
      · cases wd
        · have HT : Hid (⟨#[91]⟩ ++ bk ++ ⟨#[93]⟩ ++ (sh ++ ⟨#[33]⟩ ++ ((⟨(refT ⟨c1, r1, f1, g1⟩).toArray⟩ : ByteArray))) = ⟨(fullT ⟨bk, sh, ⟨c1, r1, f1, g1⟩, ⟨c2, r2, f2, g2⟩, false⟩).toArray⟩) := hide (by rw [fullT_good _ _ _ _ _ (unhide HGG), eS, eB]; apply ba_ext; simp)
          generalize (⟨(fullT ⟨bk, sh, ⟨c1, r1, f1, g1⟩, ⟨c2, r2, f2, g2⟩, false⟩).toArray⟩ : ByteArray) = T at HT ⊢
          generalize (⟨(refT ⟨c1, r1, f1, g1⟩).toArray⟩ : ByteArray) = A at HT HA za
          go_enter Tryd.func14, Tryd.ntmps14
          go_upto_region 1 with fail
          have P := hide (cells_new w 31 #[.string bk, .string sh, .int .i64 c1, .int .i64 r1, .bool f1, .bool g1, .int .i64 c2, .int .i64 r2, .bool f2, .bool g2, .bool false])
          have HB : Hid (Below w.heap.size w (w.alloc (.cells #[.string bk, .string sh, .int .i64 c1, .int .i64 r1, .bool f1, .bool g1, .int .i64 c2, .int .i64 r2, .bool f2, .bool g2, .bool false] 31))) := hide (below_al _ _)
          generalize hW : w.alloc (.cells #[.string bk, .string sh, .int .i64 c1, .int .i64 r1, .bool f1, .bool g1, .int .i64 c2, .int .i64 r2, .bool f2, .bool g2, .bool false] 31) = W0 at P HB ⊢
          clear hW
          obtain ⟨p_0, p_1, p_2, p_3, p_4, p_5, p_6, p_7, p_8, p_9, p_10⟩ := cells11 (unhide P)
          go_wp2_with fail
          refine (unhide HG _).mono ?_
          rintro e wk1 ⟨rfl, bk1⟩
          replace P := hide (cells_nx (unhide P) bk1)
          replace HB := hide (below_nx (unhide HB) bk1)
          clear bk1
          clear p_0 p_1 p_2 p_3 p_4 p_5 p_6 p_7 p_8 p_9 p_10
          obtain ⟨p_0, p_1, p_2, p_3, p_4, p_5, p_6, p_7, p_8, p_9, p_10⟩ := cells11 (unhide P)
          go_wp2_with fail
          refine (unhide HA _ ((unhide HE).below (unhide HB))).mono ?_
          rintro e wk2 ⟨rfl, bk2⟩
          replace P := hide (cells_nx (unhide P) bk2)
          replace HB := hide (below_nx (unhide HB) bk2)
          clear bk2
          clear p_0 p_1 p_2 p_3 p_4 p_5 p_6 p_7 p_8 p_9 p_10
          obtain ⟨p_0, p_1, p_2, p_3, p_4, p_5, p_6, p_7, p_8, p_9, p_10⟩ := cells11 (unhide P)
          go_wp2
          go_ret
          exact ⟨by rw [← unhide HT]; rfl, unhide HB⟩
        · have HT : Hid (⟨#[91]⟩ ++ bk ++ ⟨#[93]⟩ ++ (sh ++ ⟨#[33]⟩ ++ ((⟨(refT ⟨c1, r1, f1, g1⟩).toArray⟩ : ByteArray) ++ (⟨#[58]⟩ ++ (⟨(refT ⟨c2, r2, f2, g2⟩).toArray⟩ : ByteArray)))) = ⟨(fullT ⟨bk, sh, ⟨c1, r1, f1, g1⟩, ⟨c2, r2, f2, g2⟩, true⟩).toArray⟩) := hide (by rw [fullT_good _ _ _ _ _ (unhide HGG), eS, eB]; apply ba_ext; simp)
          generalize (⟨(fullT ⟨bk, sh, ⟨c1, r1, f1, g1⟩, ⟨c2, r2, f2, g2⟩, true⟩).toArray⟩ : ByteArray) = T at HT ⊢
          generalize (⟨(refT ⟨c1, r1, f1, g1⟩).toArray⟩ : ByteArray) = A at HT HA za
          generalize (⟨(refT ⟨c2, r2, f2, g2⟩).toArray⟩ : ByteArray) = B at HT HBB zb
          go_enter Tryd.func14, Tryd.ntmps14
          go_upto_region 1 with fail
          have P := hide (cells_new w 31 #[.string bk, .string sh, .int .i64 c1, .int .i64 r1, .bool f1, .bool g1, .int .i64 c2, .int .i64 r2, .bool f2, .bool g2, .bool true])
          have HB : Hid (Below w.heap.size w (w.alloc (.cells #[.string bk, .string sh, .int .i64 c1, .int .i64 r1, .bool f1, .bool g1, .int .i64 c2, .int .i64 r2, .bool f2, .bool g2, .bool true] 31))) := hide (below_al _ _)
          generalize hW : w.alloc (.cells #[.string bk, .string sh, .int .i64 c1, .int .i64 r1, .bool f1, .bool g1, .int .i64 c2, .int .i64 r2, .bool f2, .bool g2, .bool true] 31) = W0 at P HB ⊢
          clear hW
          obtain ⟨p_0, p_1, p_2, p_3, p_4, p_5, p_6, p_7, p_8, p_9, p_10⟩ := cells11 (unhide P)
          go_wp2_with fail
          refine (unhide HG _).mono ?_
          rintro e wk1 ⟨rfl, bk1⟩
          replace P := hide (cells_nx (unhide P) bk1)
          replace HB := hide (below_nx (unhide HB) bk1)
          clear bk1
          clear p_0 p_1 p_2 p_3 p_4 p_5 p_6 p_7 p_8 p_9 p_10
          obtain ⟨p_0, p_1, p_2, p_3, p_4, p_5, p_6, p_7, p_8, p_9, p_10⟩ := cells11 (unhide P)
          go_wp2_with fail
          refine (unhide HA _ ((unhide HE).below (unhide HB))).mono ?_
          rintro e wk2 ⟨rfl, bk2⟩
          replace P := hide (cells_nx (unhide P) bk2)
          replace HB := hide (below_nx (unhide HB) bk2)
          clear bk2
          clear p_0 p_1 p_2 p_3 p_4 p_5 p_6 p_7 p_8 p_9 p_10
          obtain ⟨p_0, p_1, p_2, p_3, p_4, p_5, p_6, p_7, p_8, p_9, p_10⟩ := cells11 (unhide P)
          go_wp2_with fail
          refine (unhide HBB _ ((unhide HE).below (unhide HB))).mono ?_
          rintro e wk3 ⟨rfl, bk3⟩
          replace P := hide (cells_nx (unhide P) bk3)
          replace HB := hide (below_nx (unhide HB) bk3)
          clear bk3
          clear p_0 p_1 p_2 p_3 p_4 p_5 p_6 p_7 p_8 p_9 p_10
          obtain ⟨p_0, p_1, p_2, p_3, p_4, p_5, p_6, p_7, p_8, p_9, p_10⟩ := cells11 (unhide P)
          go_wp2
          go_ret
          exact ⟨by rw [← unhide HT]; rfl, unhide HB⟩
      · cases wd
        · have HT : Hid (sh ++ ⟨#[33]⟩ ++ ((⟨(refT ⟨c1, r1, f1, g1⟩).toArray⟩ : ByteArray)) = ⟨(fullT ⟨bk, sh, ⟨c1, r1, f1, g1⟩, ⟨c2, r2, f2, g2⟩, false⟩).toArray⟩) := hide (by rw [fullT_good _ _ _ _ _ (unhide HGG), eS, eB]; apply ba_ext; simp)
          generalize (⟨(fullT ⟨bk, sh, ⟨c1, r1, f1, g1⟩, ⟨c2, r2, f2, g2⟩, false⟩).toArray⟩ : ByteArray) = T at HT ⊢
          generalize (⟨(refT ⟨c1, r1, f1, g1⟩).toArray⟩ : ByteArray) = A at HT HA za
          go_enter Tryd.func14, Tryd.ntmps14
          go_upto_region 1 with fail
          have P := hide (cells_new w 31 #[.string bk, .string sh, .int .i64 c1, .int .i64 r1, .bool f1, .bool g1, .int .i64 c2, .int .i64 r2, .bool f2, .bool g2, .bool false])
          have HB : Hid (Below w.heap.size w (w.alloc (.cells #[.string bk, .string sh, .int .i64 c1, .int .i64 r1, .bool f1, .bool g1, .int .i64 c2, .int .i64 r2, .bool f2, .bool g2, .bool false] 31))) := hide (below_al _ _)
          generalize hW : w.alloc (.cells #[.string bk, .string sh, .int .i64 c1, .int .i64 r1, .bool f1, .bool g1, .int .i64 c2, .int .i64 r2, .bool f2, .bool g2, .bool false] 31) = W0 at P HB ⊢
          clear hW
          obtain ⟨p_0, p_1, p_2, p_3, p_4, p_5, p_6, p_7, p_8, p_9, p_10⟩ := cells11 (unhide P)
          go_wp2_with fail
          refine (unhide HG _).mono ?_
          rintro e wk1 ⟨rfl, bk1⟩
          replace P := hide (cells_nx (unhide P) bk1)
          replace HB := hide (below_nx (unhide HB) bk1)
          clear bk1
          clear p_0 p_1 p_2 p_3 p_4 p_5 p_6 p_7 p_8 p_9 p_10
          obtain ⟨p_0, p_1, p_2, p_3, p_4, p_5, p_6, p_7, p_8, p_9, p_10⟩ := cells11 (unhide P)
          go_wp2_with fail
          refine (unhide HA _ ((unhide HE).below (unhide HB))).mono ?_
          rintro e wk2 ⟨rfl, bk2⟩
          replace P := hide (cells_nx (unhide P) bk2)
          replace HB := hide (below_nx (unhide HB) bk2)
          clear bk2
          clear p_0 p_1 p_2 p_3 p_4 p_5 p_6 p_7 p_8 p_9 p_10
          obtain ⟨p_0, p_1, p_2, p_3, p_4, p_5, p_6, p_7, p_8, p_9, p_10⟩ := cells11 (unhide P)
          go_wp2
          go_ret
          exact ⟨by rw [← unhide HT]; rfl, unhide HB⟩
        · have HT : Hid (sh ++ ⟨#[33]⟩ ++ ((⟨(refT ⟨c1, r1, f1, g1⟩).toArray⟩ : ByteArray) ++ (⟨#[58]⟩ ++ (⟨(refT ⟨c2, r2, f2, g2⟩).toArray⟩ : ByteArray))) = ⟨(fullT ⟨bk, sh, ⟨c1, r1, f1, g1⟩, ⟨c2, r2, f2, g2⟩, true⟩).toArray⟩) := hide (by rw [fullT_good _ _ _ _ _ (unhide HGG), eS, eB]; apply ba_ext; simp)
          generalize (⟨(fullT ⟨bk, sh, ⟨c1, r1, f1, g1⟩, ⟨c2, r2, f2, g2⟩, true⟩).toArray⟩ : ByteArray) = T at HT ⊢
          generalize (⟨(refT ⟨c1, r1, f1, g1⟩).toArray⟩ : ByteArray) = A at HT HA za
          generalize (⟨(refT ⟨c2, r2, f2, g2⟩).toArray⟩ : ByteArray) = B at HT HBB zb
          go_enter Tryd.func14, Tryd.ntmps14
          go_upto_region 1 with fail
          have P := hide (cells_new w 31 #[.string bk, .string sh, .int .i64 c1, .int .i64 r1, .bool f1, .bool g1, .int .i64 c2, .int .i64 r2, .bool f2, .bool g2, .bool true])
          have HB : Hid (Below w.heap.size w (w.alloc (.cells #[.string bk, .string sh, .int .i64 c1, .int .i64 r1, .bool f1, .bool g1, .int .i64 c2, .int .i64 r2, .bool f2, .bool g2, .bool true] 31))) := hide (below_al _ _)
          generalize hW : w.alloc (.cells #[.string bk, .string sh, .int .i64 c1, .int .i64 r1, .bool f1, .bool g1, .int .i64 c2, .int .i64 r2, .bool f2, .bool g2, .bool true] 31) = W0 at P HB ⊢
          clear hW
          obtain ⟨p_0, p_1, p_2, p_3, p_4, p_5, p_6, p_7, p_8, p_9, p_10⟩ := cells11 (unhide P)
          go_wp2_with fail
          refine (unhide HG _).mono ?_
          rintro e wk1 ⟨rfl, bk1⟩
          replace P := hide (cells_nx (unhide P) bk1)
          replace HB := hide (below_nx (unhide HB) bk1)
          clear bk1
          clear p_0 p_1 p_2 p_3 p_4 p_5 p_6 p_7 p_8 p_9 p_10
          obtain ⟨p_0, p_1, p_2, p_3, p_4, p_5, p_6, p_7, p_8, p_9, p_10⟩ := cells11 (unhide P)
          go_wp2_with fail
          refine (unhide HA _ ((unhide HE).below (unhide HB))).mono ?_
          rintro e wk2 ⟨rfl, bk2⟩
          replace P := hide (cells_nx (unhide P) bk2)
          replace HB := hide (below_nx (unhide HB) bk2)
          clear bk2
          clear p_0 p_1 p_2 p_3 p_4 p_5 p_6 p_7 p_8 p_9 p_10
          obtain ⟨p_0, p_1, p_2, p_3, p_4, p_5, p_6, p_7, p_8, p_9, p_10⟩ := cells11 (unhide P)
          go_wp2_with fail
          refine (unhide HBB _ ((unhide HE).below (unhide HB))).mono ?_
          rintro e wk3 ⟨rfl, bk3⟩
          replace P := hide (cells_nx (unhide P) bk3)
          replace HB := hide (below_nx (unhide HB) bk3)
          clear bk3
          clear p_0 p_1 p_2 p_3 p_4 p_5 p_6 p_7 p_8 p_9 p_10
          obtain ⟨p_0, p_1, p_2, p_3, p_4, p_5, p_6, p_7, p_8, p_9, p_10⟩ := cells11 (unhide P)
          go_wp2
          go_ret
          exact ⟨by rw [← unhide HT]; rfl, unhide HB⟩
    · have eB := z3 eS
      clear z3
      cases wd
      · have HT : Hid ((⟨(refT ⟨c1, r1, f1, g1⟩).toArray⟩ : ByteArray) = ⟨(fullT ⟨bk, sh, ⟨c1, r1, f1, g1⟩, ⟨c2, r2, f2, g2⟩, false⟩).toArray⟩) := hide (by rw [fullT_good _ _ _ _ _ (unhide HGG), eS, eB]; apply ba_ext; simp)
        generalize (⟨(fullT ⟨bk, sh, ⟨c1, r1, f1, g1⟩, ⟨c2, r2, f2, g2⟩, false⟩).toArray⟩ : ByteArray) = T at HT ⊢
        generalize (⟨(refT ⟨c1, r1, f1, g1⟩).toArray⟩ : ByteArray) = A at HT HA za
        go_enter Tryd.func14, Tryd.ntmps14
        go_upto_region 1 with fail
        have P := hide (cells_new w 31 #[.string bk, .string sh, .int .i64 c1, .int .i64 r1, .bool f1, .bool g1, .int .i64 c2, .int .i64 r2, .bool f2, .bool g2, .bool false])
        have HB : Hid (Below w.heap.size w (w.alloc (.cells #[.string bk, .string sh, .int .i64 c1, .int .i64 r1, .bool f1, .bool g1, .int .i64 c2, .int .i64 r2, .bool f2, .bool g2, .bool false] 31))) := hide (below_al _ _)
        generalize hW : w.alloc (.cells #[.string bk, .string sh, .int .i64 c1, .int .i64 r1, .bool f1, .bool g1, .int .i64 c2, .int .i64 r2, .bool f2, .bool g2, .bool false] 31) = W0 at P HB ⊢
        clear hW
        obtain ⟨p_0, p_1, p_2, p_3, p_4, p_5, p_6, p_7, p_8, p_9, p_10⟩ := cells11 (unhide P)
        go_wp2_with fail
        refine (unhide HG _).mono ?_
        rintro e wk1 ⟨rfl, bk1⟩
        replace P := hide (cells_nx (unhide P) bk1)
        replace HB := hide (below_nx (unhide HB) bk1)
        clear bk1
        clear p_0 p_1 p_2 p_3 p_4 p_5 p_6 p_7 p_8 p_9 p_10
        obtain ⟨p_0, p_1, p_2, p_3, p_4, p_5, p_6, p_7, p_8, p_9, p_10⟩ := cells11 (unhide P)
        go_wp2_with fail
        refine (unhide HA _ ((unhide HE).below (unhide HB))).mono ?_
        rintro e wk2 ⟨rfl, bk2⟩
        replace P := hide (cells_nx (unhide P) bk2)
        replace HB := hide (below_nx (unhide HB) bk2)
        clear bk2
        clear p_0 p_1 p_2 p_3 p_4 p_5 p_6 p_7 p_8 p_9 p_10
        obtain ⟨p_0, p_1, p_2, p_3, p_4, p_5, p_6, p_7, p_8, p_9, p_10⟩ := cells11 (unhide P)
        go_wp2
        go_ret
        exact ⟨by rw [← unhide HT]; rfl, unhide HB⟩
      · have HT : Hid ((⟨(refT ⟨c1, r1, f1, g1⟩).toArray⟩ : ByteArray) ++ (⟨#[58]⟩ ++ (⟨(refT ⟨c2, r2, f2, g2⟩).toArray⟩ : ByteArray)) = ⟨(fullT ⟨bk, sh, ⟨c1, r1, f1, g1⟩, ⟨c2, r2, f2, g2⟩, true⟩).toArray⟩) := hide (by rw [fullT_good _ _ _ _ _ (unhide HGG), eS, eB]; apply ba_ext; simp)
        generalize (⟨(fullT ⟨bk, sh, ⟨c1, r1, f1, g1⟩, ⟨c2, r2, f2, g2⟩, true⟩).toArray⟩ : ByteArray) = T at HT ⊢
        generalize (⟨(refT ⟨c1, r1, f1, g1⟩).toArray⟩ : ByteArray) = A at HT HA za
        generalize (⟨(refT ⟨c2, r2, f2, g2⟩).toArray⟩ : ByteArray) = B at HT HBB zb
        go_enter Tryd.func14, Tryd.ntmps14
        go_upto_region 1 with fail
        have P := hide (cells_new w 31 #[.string bk, .string sh, .int .i64 c1, .int .i64 r1, .bool f1, .bool g1, .int .i64 c2, .int .i64 r2, .bool f2, .bool g2, .bool true])
        have HB : Hid (Below w.heap.size w (w.alloc (.cells #[.string bk, .string sh, .int .i64 c1, .int .i64 r1, .bool f1, .bool g1, .int .i64 c2, .int .i64 r2, .bool f2, .bool g2, .bool true] 31))) := hide (below_al _ _)
        generalize hW : w.alloc (.cells #[.string bk, .string sh, .int .i64 c1, .int .i64 r1, .bool f1, .bool g1, .int .i64 c2, .int .i64 r2, .bool f2, .bool g2, .bool true] 31) = W0 at P HB ⊢
        clear hW
        obtain ⟨p_0, p_1, p_2, p_3, p_4, p_5, p_6, p_7, p_8, p_9, p_10⟩ := cells11 (unhide P)
        go_wp2_with fail
        refine (unhide HG _).mono ?_
        rintro e wk1 ⟨rfl, bk1⟩
        replace P := hide (cells_nx (unhide P) bk1)
        replace HB := hide (below_nx (unhide HB) bk1)
        clear bk1
        clear p_0 p_1 p_2 p_3 p_4 p_5 p_6 p_7 p_8 p_9 p_10
        obtain ⟨p_0, p_1, p_2, p_3, p_4, p_5, p_6, p_7, p_8, p_9, p_10⟩ := cells11 (unhide P)
        go_wp2_with fail
        refine (unhide HA _ ((unhide HE).below (unhide HB))).mono ?_
        rintro e wk2 ⟨rfl, bk2⟩
        replace P := hide (cells_nx (unhide P) bk2)
        replace HB := hide (below_nx (unhide HB) bk2)
        clear bk2
        clear p_0 p_1 p_2 p_3 p_4 p_5 p_6 p_7 p_8 p_9 p_10
        obtain ⟨p_0, p_1, p_2, p_3, p_4, p_5, p_6, p_7, p_8, p_9, p_10⟩ := cells11 (unhide P)
        go_wp2_with fail
        refine (unhide HBB _ ((unhide HE).below (unhide HB))).mono ?_
        rintro e wk3 ⟨rfl, bk3⟩
        replace P := hide (cells_nx (unhide P) bk3)
        replace HB := hide (below_nx (unhide HB) bk3)
        clear bk3
        clear p_0 p_1 p_2 p_3 p_4 p_5 p_6 p_7 p_8 p_9 p_10
        obtain ⟨p_0, p_1, p_2, p_3, p_4, p_5, p_6, p_7, p_8, p_9, p_10⟩ := cells11 (unhide P)
        go_wp2
        go_ret
        exact ⟨by rw [← unhide HT]; rfl, unhide HB⟩
set_option maxRecDepth 100000 in
set_option maxHeartbeats 4000000 in
theorem text4_ref (f : Fl) (w : World) :
    Calls Tryd.prog 15 #[.agg f.cells] w fun e w' => e = .returned (.string ⟨(fullT f).toArray⟩) ∧ Below w.heap.size w w' := by
  have HG := hide (fun w => good4_ref f w)
  cases hg : goodF f
  · have e : fullT f = [] := by unfold fullT; rw [hg]; rfl
    rw [e]
    rw [hg] at HG
    clear e hg
    obtain ⟨bk, sh, ⟨c1, r1, f1, g1⟩, ⟨c2, r2, f2, g2⟩, wd⟩ := f
    unfold Fl.cells at HG ⊢
    simp only [] at HG ⊢
    go_enter Tryd.func15, Tryd.ntmps15
    go_upto_region 1 with fail
    have P := hide (cells_new w 35 #[.string bk, .string sh, .int .i64 c1, .int .i64 r1, .bool f1, .bool g1, .int .i64 c2, .int .i64 r2, .bool f2, .bool g2, .bool wd])
    have HB : Hid (Below w.heap.size w (w.alloc (.cells #[.string bk, .string sh, .int .i64 c1, .int .i64 r1, .bool f1, .bool g1, .int .i64 c2, .int .i64 r2, .bool f2, .bool g2, .bool wd] 35))) := hide (below_al _ _)
    generalize hW : w.alloc (.cells #[.string bk, .string sh, .int .i64 c1, .int .i64 r1, .bool f1, .bool g1, .int .i64 c2, .int .i64 r2, .bool f2, .bool g2, .bool wd] 35) = W0 at P HB ⊢
    clear hW
    obtain ⟨p_0, p_1, p_2, p_3, p_4, p_5, p_6, p_7, p_8, p_9, p_10⟩ := cells11 (unhide P)
    go_wp2_with fail
    refine (unhide HG _).mono ?_
    rintro e wk1 ⟨rfl, bk1⟩
    replace P := hide (cells_nx (unhide P) bk1)
    replace HB := hide (below_nx (unhide HB) bk1)
    clear bk1
    clear p_0 p_1 p_2 p_3 p_4 p_5 p_6 p_7 p_8 p_9 p_10
    go_wp2
    go_ret
    exact ⟨rfl, unhide HB⟩
  · rw [hg] at HG
    obtain ⟨bk, sh, ⟨c1, r1, f1, g1⟩, ⟨c2, r2, f2, g2⟩, wd⟩ := f
    have HGG := hide hg
    obtain ⟨z1, z2, z3⟩ := good_sizes _ _ _ _ _ hg
    clear hg
    unfold Fl.cells at HG ⊢
    simp only [] at HG ⊢
    have HA := hide (fun w => refText_ref ⟨c1, r1, f1, g1⟩ w)
    have HBB := hide (fun w => refText_ref ⟨c2, r2, f2, g2⟩ w)
    unfold Rf.cells at HA HBB
    have za : (⟨(refT ⟨c1, r1, f1, g1⟩).toArray⟩ : ByteArray).size ≤ 8 := refT_len ⟨c1, r1, f1, g1⟩
    have zb : (⟨(refT ⟨c2, r2, f2, g2⟩).toArray⟩ : ByteArray).size ≤ 8 := refT_len ⟨c2, r2, f2, g2⟩
    cases eS : (sh.toList == [])
    · clear z3
      cases eB : (bk.toList == [])
      · cases wd
        · have HT : Hid (⟨#[91]⟩ ++ bk ++ ⟨#[93]⟩ ++ (sh ++ ⟨#[33]⟩ ++ (⟨(refT ⟨c1, r1, f1, g1⟩).toArray⟩ : ByteArray)) = ⟨(fullT ⟨bk, sh, ⟨c1, r1, f1, g1⟩, ⟨c2, r2, f2, g2⟩, false⟩).toArray⟩) := hide (by rw [fullT_good _ _ _ _ _ (unhide HGG), eS, eB]; apply ba_ext; simp)
          generalize (⟨(fullT ⟨bk, sh, ⟨c1, r1, f1, g1⟩, ⟨c2, r2, f2, g2⟩, false⟩).toArray⟩ : ByteArray) = T at HT ⊢
          generalize (⟨(refT ⟨c1, r1, f1, g1⟩).toArray⟩ : ByteArray) = A at HT HA za
          go_enter Tryd.func15, Tryd.ntmps15
          go_upto_region 1 with fail
          have P := hide (cells_new w 35 #[.string bk, .string sh, .int .i64 c1, .int .i64 r1, .bool f1, .bool g1, .int .i64 c2, .int .i64 r2, .bool f2, .bool g2, .bool false])
          have HB : Hid (Below w.heap.size w (w.alloc (.cells #[.string bk, .string sh, .int .i64 c1, .int .i64 r1, .bool f1, .bool g1, .int .i64 c2, .int .i64 r2, .bool f2, .bool g2, .bool false] 35))) := hide (below_al _ _)
          generalize hW : w.alloc (.cells #[.string bk, .string sh, .int .i64 c1, .int .i64 r1, .bool f1, .bool g1, .int .i64 c2, .int .i64 r2, .bool f2, .bool g2, .bool false] 35) = W0 at P HB ⊢
          clear hW
          obtain ⟨p_0, p_1, p_2, p_3, p_4, p_5, p_6, p_7, p_8, p_9, p_10⟩ := cells11 (unhide P)
          go_wp2_with fail
          refine (unhide HG _).mono ?_
          rintro e wk1 ⟨rfl, bk1⟩
          replace P := hide (cells_nx (unhide P) bk1)
          replace HB := hide (below_nx (unhide HB) bk1)
          clear bk1
          clear p_0 p_1 p_2 p_3 p_4 p_5 p_6 p_7 p_8 p_9 p_10
          obtain ⟨p_0, p_1, p_2, p_3, p_4, p_5, p_6, p_7, p_8, p_9, p_10⟩ := cells11 (unhide P)
          go_wp2_with fail
          refine (unhide HA _).mono ?_
          rintro e wk2 ⟨rfl, bk2⟩
          replace P := hide (cells_nx (unhide P) bk2)
          replace HB := hide (below_nx (unhide HB) bk2)
          clear bk2
          clear p_0 p_1 p_2 p_3 p_4 p_5 p_6 p_7 p_8 p_9 p_10
          obtain ⟨p_0, p_1, p_2, p_3, p_4, p_5, p_6, p_7, p_8, p_9, p_10⟩ := cells11 (unhide P)
          go_wp2
          go_ret
          exact ⟨by rw [← unhide HT]; rfl, unhide HB⟩
        · have HT : Hid ((⟨#[91]⟩ ++ bk ++ ⟨#[93]⟩ ++ (sh ++ ⟨#[33]⟩ ++ (⟨(refT ⟨c1, r1, f1, g1⟩).toArray⟩ : ByteArray))) ++ ⟨#[58]⟩ ++ (⟨(refT ⟨c2, r2, f2, g2⟩).toArray⟩ : ByteArray) = ⟨(fullT ⟨bk, sh, ⟨c1, r1, f1, g1⟩, ⟨c2, r2, f2, g2⟩, true⟩).toArray⟩) := hide (by rw [fullT_good _ _ _ _ _ (unhide HGG), eS, eB]; apply ba_ext; simp)
          generalize (⟨(fullT ⟨bk, sh, ⟨c1, r1, f1, g1⟩, ⟨c2, r2, f2, g2⟩, true⟩).toArray⟩ : ByteArray) = T at HT ⊢
          generalize (⟨(refT ⟨c1, r1, f1, g1⟩).toArray⟩ : ByteArray) = A at HT HA za
          generalize (⟨(refT ⟨c2, r2, f2, g2⟩).toArray⟩ : ByteArray) = B at HT HBB zb
          go_enter Tryd.func15, Tryd.ntmps15
          go_upto_region 1 with fail
          have P := hide (cells_new w 35 #[.string bk, .string sh, .int .i64 c1, .int .i64 r1, .bool f1, .bool g1, .int .i64 c2, .int .i64 r2, .bool f2, .bool g2, .bool true])
          have HB : Hid (Below w.heap.size w (w.alloc (.cells #[.string bk, .string sh, .int .i64 c1, .int .i64 r1, .bool f1, .bool g1, .int .i64 c2, .int .i64 r2, .bool f2, .bool g2, .bool true] 35))) := hide (below_al _ _)
          generalize hW : w.alloc (.cells #[.string bk, .string sh, .int .i64 c1, .int .i64 r1, .bool f1, .bool g1, .int .i64 c2, .int .i64 r2, .bool f2, .bool g2, .bool true] 35) = W0 at P HB ⊢
          clear hW
          obtain ⟨p_0, p_1, p_2, p_3, p_4, p_5, p_6, p_7, p_8, p_9, p_10⟩ := cells11 (unhide P)
          go_wp2_with fail
          refine (unhide HG _).mono ?_
          rintro e wk1 ⟨rfl, bk1⟩
          replace P := hide (cells_nx (unhide P) bk1)
          replace HB := hide (below_nx (unhide HB) bk1)
          clear bk1
          clear p_0 p_1 p_2 p_3 p_4 p_5 p_6 p_7 p_8 p_9 p_10
          obtain ⟨p_0, p_1, p_2, p_3, p_4, p_5, p_6, p_7, p_8, p_9, p_10⟩ := cells11 (unhide P)
          go_wp2_with fail
          refine (unhide HA _).mono ?_
          rintro e wk2 ⟨rfl, bk2⟩
          replace P := hide (cells_nx (unhide P) bk2)
          replace HB := hide (below_nx (unhide HB) bk2)
          clear bk2
          clear p_0 p_1 p_2 p_3 p_4 p_5 p_6 p_7 p_8 p_9 p_10
          obtain ⟨p_0, p_1, p_2, p_3, p_4, p_5, p_6, p_7, p_8, p_9, p_10⟩ := cells11 (unhide P)
          go_wp2_with fail
          refine (unhide HBB _).mono ?_
          rintro e wk3 ⟨rfl, bk3⟩
          replace P := hide (cells_nx (unhide P) bk3)
          replace HB := hide (below_nx (unhide HB) bk3)
          clear bk3
          clear p_0 p_1 p_2 p_3 p_4 p_5 p_6 p_7 p_8 p_9 p_10
          obtain ⟨p_0, p_1, p_2, p_3, p_4, p_5, p_6, p_7, p_8, p_9, p_10⟩ := cells11 (unhide P)
          go_wp2
          go_ret
          exact ⟨by rw [← unhide HT]; rfl, unhide HB⟩
      · cases wd
        · have HT : Hid (sh ++ ⟨#[33]⟩ ++ (⟨(refT ⟨c1, r1, f1, g1⟩).toArray⟩ : ByteArray) = ⟨(fullT ⟨bk, sh, ⟨c1, r1, f1, g1⟩, ⟨c2, r2, f2, g2⟩, false⟩).toArray⟩) := hide (by rw [fullT_good _ _ _ _ _ (unhide HGG), eS, eB]; apply ba_ext; simp)
          generalize (⟨(fullT ⟨bk, sh, ⟨c1, r1, f1, g1⟩, ⟨c2, r2, f2, g2⟩, false⟩).toArray⟩ : ByteArray) = T at HT ⊢
          generalize (⟨(refT ⟨c1, r1, f1, g1⟩).toArray⟩ : ByteArray) = A at HT HA za
          go_enter Tryd.func15, Tryd.ntmps15
          go_upto_region 1 with fail
          have P := hide (cells_new w 35 #[.string bk, .string sh, .int .i64 c1, .int .i64 r1, .bool f1, .bool g1, .int .i64 c2, .int .i64 r2, .bool f2, .bool g2, .bool false])
          have HB : Hid (Below w.heap.size w (w.alloc (.cells #[.string bk, .string sh, .int .i64 c1, .int .i64 r1, .bool f1, .bool g1, .int .i64 c2, .int .i64 r2, .bool f2, .bool g2, .bool false] 35))) := hide (below_al _ _)
          generalize hW : w.alloc (.cells #[.string bk, .string sh, .int .i64 c1, .int .i64 r1, .bool f1, .bool g1, .int .i64 c2, .int .i64 r2, .bool f2, .bool g2, .bool false] 35) = W0 at P HB ⊢
          clear hW
          obtain ⟨p_0, p_1, p_2, p_3, p_4, p_5, p_6, p_7, p_8, p_9, p_10⟩ := cells11 (unhide P)
          go_wp2_with fail
          refine (unhide HG _).mono ?_
          rintro e wk1 ⟨rfl, bk1⟩
          replace P := hide (cells_nx (unhide P) bk1)
          replace HB := hide (below_nx (unhide HB) bk1)
          clear bk1
          clear p_0 p_1 p_2 p_3 p_4 p_5 p_6 p_7 p_8 p_9 p_10
          obtain ⟨p_0, p_1, p_2, p_3, p_4, p_5, p_6, p_7, p_8, p_9, p_10⟩ := cells11 (unhide P)
          go_wp2_with fail
          refine (unhide HA _).mono ?_
          rintro e wk2 ⟨rfl, bk2⟩
          replace P := hide (cells_nx (unhide P) bk2)
          replace HB := hide (below_nx (unhide HB) bk2)
          clear bk2
          clear p_0 p_1 p_2 p_3 p_4 p_5 p_6 p_7 p_8 p_9 p_10
          obtain ⟨p_0, p_1, p_2, p_3, p_4, p_5, p_6, p_7, p_8, p_9, p_10⟩ := cells11 (unhide P)
          go_wp2
          go_ret
          exact ⟨by rw [← unhide HT]; rfl, unhide HB⟩
        · have HT : Hid ((sh ++ ⟨#[33]⟩ ++ (⟨(refT ⟨c1, r1, f1, g1⟩).toArray⟩ : ByteArray)) ++ ⟨#[58]⟩ ++ (⟨(refT ⟨c2, r2, f2, g2⟩).toArray⟩ : ByteArray) = ⟨(fullT ⟨bk, sh, ⟨c1, r1, f1, g1⟩, ⟨c2, r2, f2, g2⟩, true⟩).toArray⟩) := hide (by rw [fullT_good _ _ _ _ _ (unhide HGG), eS, eB]; apply ba_ext; simp)
          generalize (⟨(fullT ⟨bk, sh, ⟨c1, r1, f1, g1⟩, ⟨c2, r2, f2, g2⟩, true⟩).toArray⟩ : ByteArray) = T at HT ⊢
          generalize (⟨(refT ⟨c1, r1, f1, g1⟩).toArray⟩ : ByteArray) = A at HT HA za
          generalize (⟨(refT ⟨c2, r2, f2, g2⟩).toArray⟩ : ByteArray) = B at HT HBB zb
          go_enter Tryd.func15, Tryd.ntmps15
          go_upto_region 1 with fail
          have P := hide (cells_new w 35 #[.string bk, .string sh, .int .i64 c1, .int .i64 r1, .bool f1, .bool g1, .int .i64 c2, .int .i64 r2, .bool f2, .bool g2, .bool true])
          have HB : Hid (Below w.heap.size w (w.alloc (.cells #[.string bk, .string sh, .int .i64 c1, .int .i64 r1, .bool f1, .bool g1, .int .i64 c2, .int .i64 r2, .bool f2, .bool g2, .bool true] 35))) := hide (below_al _ _)
          generalize hW : w.alloc (.cells #[.string bk, .string sh, .int .i64 c1, .int .i64 r1, .bool f1, .bool g1, .int .i64 c2, .int .i64 r2, .bool f2, .bool g2, .bool true] 35) = W0 at P HB ⊢
          clear hW
          obtain ⟨p_0, p_1, p_2, p_3, p_4, p_5, p_6, p_7, p_8, p_9, p_10⟩ := cells11 (unhide P)
          go_wp2_with fail
          refine (unhide HG _).mono ?_
          rintro e wk1 ⟨rfl, bk1⟩
          replace P := hide (cells_nx (unhide P) bk1)
          replace HB := hide (below_nx (unhide HB) bk1)
          clear bk1
          clear p_0 p_1 p_2 p_3 p_4 p_5 p_6 p_7 p_8 p_9 p_10
          obtain ⟨p_0, p_1, p_2, p_3, p_4, p_5, p_6, p_7, p_8, p_9, p_10⟩ := cells11 (unhide P)
          go_wp2_with fail
          refine (unhide HA _).mono ?_
          rintro e wk2 ⟨rfl, bk2⟩
          replace P := hide (cells_nx (unhide P) bk2)
          replace HB := hide (below_nx (unhide HB) bk2)
          clear bk2
          clear p_0 p_1 p_2 p_3 p_4 p_5 p_6 p_7 p_8 p_9 p_10
          obtain ⟨p_0, p_1, p_2, p_3, p_4, p_5, p_6, p_7, p_8, p_9, p_10⟩ := cells11 (unhide P)
          go_wp2_with fail
          refine (unhide HBB _).mono ?_
          rintro e wk3 ⟨rfl, bk3⟩
          replace P := hide (cells_nx (unhide P) bk3)
          replace HB := hide (below_nx (unhide HB) bk3)
          clear bk3
          clear p_0 p_1 p_2 p_3 p_4 p_5 p_6 p_7 p_8 p_9 p_10
          obtain ⟨p_0, p_1, p_2, p_3, p_4, p_5, p_6, p_7, p_8, p_9, p_10⟩ := cells11 (unhide P)
          go_wp2
          go_ret
          exact ⟨by rw [← unhide HT]; rfl, unhide HB⟩
    · have eB := z3 eS
      clear z3
      cases wd
      · have HT : Hid ((⟨(refT ⟨c1, r1, f1, g1⟩).toArray⟩ : ByteArray) = ⟨(fullT ⟨bk, sh, ⟨c1, r1, f1, g1⟩, ⟨c2, r2, f2, g2⟩, false⟩).toArray⟩) := hide (by rw [fullT_good _ _ _ _ _ (unhide HGG), eS, eB]; apply ba_ext; simp)
        generalize (⟨(fullT ⟨bk, sh, ⟨c1, r1, f1, g1⟩, ⟨c2, r2, f2, g2⟩, false⟩).toArray⟩ : ByteArray) = T at HT ⊢
        generalize (⟨(refT ⟨c1, r1, f1, g1⟩).toArray⟩ : ByteArray) = A at HT HA za
        go_enter Tryd.func15, Tryd.ntmps15
        go_upto_region 1 with fail
        have P := hide (cells_new w 35 #[.string bk, .string sh, .int .i64 c1, .int .i64 r1, .bool f1, .bool g1, .int .i64 c2, .int .i64 r2, .bool f2, .bool g2, .bool false])
        have HB : Hid (Below w.heap.size w (w.alloc (.cells #[.string bk, .string sh, .int .i64 c1, .int .i64 r1, .bool f1, .bool g1, .int .i64 c2, .int .i64 r2, .bool f2, .bool g2, .bool false] 35))) := hide (below_al _ _)
        generalize hW : w.alloc (.cells #[.string bk, .string sh, .int .i64 c1, .int .i64 r1, .bool f1, .bool g1, .int .i64 c2, .int .i64 r2, .bool f2, .bool g2, .bool false] 35) = W0 at P HB ⊢
        clear hW
        obtain ⟨p_0, p_1, p_2, p_3, p_4, p_5, p_6, p_7, p_8, p_9, p_10⟩ := cells11 (unhide P)
        go_wp2_with fail
        refine (unhide HG _).mono ?_
        rintro e wk1 ⟨rfl, bk1⟩
        replace P := hide (cells_nx (unhide P) bk1)
        replace HB := hide (below_nx (unhide HB) bk1)
        clear bk1
        clear p_0 p_1 p_2 p_3 p_4 p_5 p_6 p_7 p_8 p_9 p_10
        obtain ⟨p_0, p_1, p_2, p_3, p_4, p_5, p_6, p_7, p_8, p_9, p_10⟩ := cells11 (unhide P)
        go_wp2_with fail
        refine (unhide HA _).mono ?_
        rintro e wk2 ⟨rfl, bk2⟩
        replace P := hide (cells_nx (unhide P) bk2)
        replace HB := hide (below_nx (unhide HB) bk2)
        clear bk2
        clear p_0 p_1 p_2 p_3 p_4 p_5 p_6 p_7 p_8 p_9 p_10
        obtain ⟨p_0, p_1, p_2, p_3, p_4, p_5, p_6, p_7, p_8, p_9, p_10⟩ := cells11 (unhide P)
        go_wp2
        go_ret
        exact ⟨by rw [← unhide HT]; rfl, unhide HB⟩
      · have HT : Hid ((⟨(refT ⟨c1, r1, f1, g1⟩).toArray⟩ : ByteArray) ++ ⟨#[58]⟩ ++ (⟨(refT ⟨c2, r2, f2, g2⟩).toArray⟩ : ByteArray) = ⟨(fullT ⟨bk, sh, ⟨c1, r1, f1, g1⟩, ⟨c2, r2, f2, g2⟩, true⟩).toArray⟩) := hide (by rw [fullT_good _ _ _ _ _ (unhide HGG), eS, eB]; apply ba_ext; simp)
        generalize (⟨(fullT ⟨bk, sh, ⟨c1, r1, f1, g1⟩, ⟨c2, r2, f2, g2⟩, true⟩).toArray⟩ : ByteArray) = T at HT ⊢
        generalize (⟨(refT ⟨c1, r1, f1, g1⟩).toArray⟩ : ByteArray) = A at HT HA za
        generalize (⟨(refT ⟨c2, r2, f2, g2⟩).toArray⟩ : ByteArray) = B at HT HBB zb
        go_enter Tryd.func15, Tryd.ntmps15
        go_upto_region 1 with fail
        have P := hide (cells_new w 35 #[.string bk, .string sh, .int .i64 c1, .int .i64 r1, .bool f1, .bool g1, .int .i64 c2, .int .i64 r2, .bool f2, .bool g2, .bool true])
        have HB : Hid (Below w.heap.size w (w.alloc (.cells #[.string bk, .string sh, .int .i64 c1, .int .i64 r1, .bool f1, .bool g1, .int .i64 c2, .int .i64 r2, .bool f2, .bool g2, .bool true] 35))) := hide (below_al _ _)
        generalize hW : w.alloc (.cells #[.string bk, .string sh, .int .i64 c1, .int .i64 r1, .bool f1, .bool g1, .int .i64 c2, .int .i64 r2, .bool f2, .bool g2, .bool true] 35) = W0 at P HB ⊢
        clear hW
        obtain ⟨p_0, p_1, p_2, p_3, p_4, p_5, p_6, p_7, p_8, p_9, p_10⟩ := cells11 (unhide P)
        go_wp2_with fail
        refine (unhide HG _).mono ?_
        rintro e wk1 ⟨rfl, bk1⟩
        replace P := hide (cells_nx (unhide P) bk1)
        replace HB := hide (below_nx (unhide HB) bk1)
        clear bk1
        clear p_0 p_1 p_2 p_3 p_4 p_5 p_6 p_7 p_8 p_9 p_10
        obtain ⟨p_0, p_1, p_2, p_3, p_4, p_5, p_6, p_7, p_8, p_9, p_10⟩ := cells11 (unhide P)
        go_wp2_with fail
        refine (unhide HA _).mono ?_
        rintro e wk2 ⟨rfl, bk2⟩
        replace P := hide (cells_nx (unhide P) bk2)
        replace HB := hide (below_nx (unhide HB) bk2)
        clear bk2
        clear p_0 p_1 p_2 p_3 p_4 p_5 p_6 p_7 p_8 p_9 p_10
        obtain ⟨p_0, p_1, p_2, p_3, p_4, p_5, p_6, p_7, p_8, p_9, p_10⟩ := cells11 (unhide P)
        go_wp2_with fail
        refine (unhide HBB _).mono ?_
        rintro e wk3 ⟨rfl, bk3⟩
        replace P := hide (cells_nx (unhide P) bk3)
        replace HB := hide (below_nx (unhide HB) bk3)
        clear bk3
        clear p_0 p_1 p_2 p_3 p_4 p_5 p_6 p_7 p_8 p_9 p_10
        obtain ⟨p_0, p_1, p_2, p_3, p_4, p_5, p_6, p_7, p_8, p_9, p_10⟩ := cells11 (unhide P)
        go_wp2
        go_ret
        exact ⟨by rw [← unhide HT]; rfl, unhide HB⟩
end Go.Proofs.YtlgmpoofcdkaeaaDoor
