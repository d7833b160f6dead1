/- The contracts of Text of a reference, of both. -/
import Derived.BigQuiet
import Derived.BigRegion
import Derived.Deep.CutBlock
import Derived.Deep.CutRange
import Derived.Deep.QuietTactic
import Derived.Deep.RegionHeld3
import Derived.Laws.IdiomStrings
import Derived.Laws.Rows
import Derived.Laws.StructEq
import Derived.Lib.Atoi
import Derived.Lib.AtoiErrMem
import Derived.Lib.CutLaws
import Derived.Lib.IndexMore
import Derived.Lib.ItoaMem
import Derived.Lib.ItoaNum
import Derived.Shelf.Bits.Mul64
import Derived.Shelf.LaysM
import Derived.Shelf.Small.Bits
import Derived.Shelf.Small.Strs
import Derived.Shelf.Small.Utf8
import Derived.Shelf.Small.Wraps
import Derived.Shelf.Strconv.Atoi
import Derived.Shelf.Strconv.Itoa0
import Derived.Shelf.Strconv.Itoa1
import Derived.Shelf.Strconv.Itoa2
import Derived.Shelf.Strconv.Itoa3
import Derived.Shelf.Strings.AsciiSet
import Derived.Shelf.Strings.Builder1
import Derived.Shelf.Strings.Builder2
import Derived.Shelf.Strings.Count
import Derived.Shelf.Strings.Cut
import Derived.Shelf.Strings.OnBuilder
import Derived.Shelf.Strings.Prefix
import Derived.Shelf.Strings.Replace
import Derived.Shelf.Strings.Runes
import Derived.Shelf.Strings.Search1
import Derived.Shelf.Strings.Search2
import Derived.Shelf.Strings.Search3
import Derived.Shelf.Strings.Shaped
import Derived.Shelf.Strings.Split
import Derived.Shelf.Strings.SplitShaped
import Derived.Shelf.Strings.Trim
import Derived.Shelf.Unicode.DecodeSlow
import Derived.Test.YtloamahbghjjgaaGreatDoorProg
import Derived.Test.YtloamahbghjjgaaGreatDoorRows
import Derived.WalkKit
import Derived.WalkLawsBesides
import Derived.WalkSmall
import Derived.WalkSpells
import Derived.Test.YtloamahbghjjgaaGreatDoorZgAA
import Derived.Test.YtloamahbghjjgaaGreatDoorZgAC
import Derived.Test.YtloamahbghjjgaaGreatDoorZgAE
import Derived.Test.YtloamahbghjjgaaGreatDoorZgAF
import Derived.Test.YtloamahbghjjgaaGreatDoorZgAG
import Derived.Test.YtloamahbghjjgaaGreatDoorZgAH
namespace Go.Proofs.YtloamahbghjjgaaGreatDoor
open Go.RowKit

theorem ba_ext {x y : ByteArray} (h : x.data.toList = y.data.toList) : x = y := by
  apply ByteArray.ext
  exact Array.toList_inj.1 h
theorem fullT_good (bk sh : ByteArray) (a b : Rf) (wd : Bool) (h : goodF ⟨bk, sh, a, b, wd⟩ = true) :
    fullT ⟨bk, sh, a, b, wd⟩ = (if (bk.toList == []) = true then [] else 91 :: (bk.data.toList ++ [93])) ++ ((if (sh.toList == []) = true then [] else sh.data.toList ++ [33]) ++ (refT a ++ (if wd = true then 58 :: refT b else []))) := by
  unfold fullT
  rw [if_pos h]
  unfold bookT sheetT
  rw [empty_l, empty_l]
theorem name_len (l : List UInt8) (h : nameG l = true) : l.length ≤ 16 := by
  unfold nameG at h
  rw [Bool.and_eq_true, Bool.and_eq_true, Bool.and_eq_true] at h
  exact of_decide_eq_true h.1.1.2
theorem good_sizes (bk sh : ByteArray) (a b : Rf) (wd : Bool) (h : goodF ⟨bk, sh, a, b, wd⟩ = true) : bk.size ≤ 16 ∧ sh.size ≤ 16 ∧ ((sh.toList == []) = true → (bk.toList == []) = true) := by
  rw [goodF_mk, Bool.and_eq_true, Bool.and_eq_true, Bool.or_eq_true, Bool.or_eq_true, Bool.and_eq_true] at h
  have z : ∀ s : ByteArray, (s.toList == []) = true → s.size ≤ 16 := fun s hs => by
    rw [← empty_l, List.isEmpty_iff] at hs
    show s.data.toList.length ≤ 16
    rw [hs]; decide
  obtain ⟨⟨h1, h2⟩, _⟩ := h
  refine ⟨?_, ?_, fun hs => ?_⟩
  · rcases h2 with h2 | h2
    · exact z _ h2
    · exact name_len _ h2.2
  · rcases h1 with h1 | h1
    · exact z _ h1
    · exact name_len _ h1
  · rcases h2 with h2 | h2
    · exact h2
    · rw [hs] at h2; cases h2.1

set_option maxRecDepth 100000 in
set_option maxHeartbeats 4000000 in
theorem fullText_val (f : Fl) (w : World) (he : Env4 w) :
    Calls Tryz.prog 38 #[.agg f.cells] w fun e w' => e = .returned (.string ⟨(fullT f).toArray⟩) ∧ Below w.heap.size w w' := by
  have HE := hide he
  clear he
  have HG := hide (fun w => fullGood_val f w)
  cases hg : goodF f
  · have e : fullT f = [] := by unfold fullT; rw [hg]; rfl
    rw [e]
    rw [hg] at HG
    clear e hg
    obtain ⟨bk, sh, ⟨c1, r1, f1, g1⟩, ⟨c2, r2, f2, g2⟩, wd⟩ := f
    unfold Fl.cells at HG ⊢
    simp only [] at HG ⊢
    go_enter Tryz.func38, Tryz.ntmps38
    go_upto_region 1 with fail
    have P := hide (cells_new w 52 #[.string bk, .string sh, .int .i64 c1, .int .i64 r1, .bool f1, .bool g1, .int .i64 c2, .int .i64 r2, .bool f2, .bool g2, .bool wd])
    have HB : Hid (Below w.heap.size w (w.alloc (.cells #[.string bk, .string sh, .int .i64 c1, .int .i64 r1, .bool f1, .bool g1, .int .i64 c2, .int .i64 r2, .bool f2, .bool g2, .bool wd] 52))) := hide (below_al _ _)
    generalize hW : w.alloc (.cells #[.string bk, .string sh, .int .i64 c1, .int .i64 r1, .bool f1, .bool g1, .int .i64 c2, .int .i64 r2, .bool f2, .bool g2, .bool wd] 52) = W0 at P HB ⊢
    clear hW
    obtain ⟨p_0, p_1, p_2, p_3, p_4, p_5, p_6, p_7, p_8, p_9, p_10⟩ := cells11 (unhide P)
    go_wp2_with fail
    refine (unhide HG _).mono ?_
    rintro e wk1 ⟨rfl, bk1⟩
    replace P := hide (cells_nx (unhide P) bk1)
    replace HB := hide (below_nx (unhide HB) bk1)
    clear bk1
    clear p_0 p_1 p_2 p_3 p_4 p_5 p_6 p_7 p_8 p_9 p_10
    go_wp2
    go_ret
    exact ⟨rfl, unhide HB⟩
  · rw [hg] at HG
    obtain ⟨bk, sh, ⟨c1, r1, f1, g1⟩, ⟨c2, r2, f2, g2⟩, wd⟩ := f
    have HGG := hide hg
    obtain ⟨z1, z2, z3⟩ := good_sizes _ _ _ _ _ hg
    clear hg
    unfold Fl.cells at HG ⊢
    simp only [] at HG ⊢
    have HA := hide (fun w he => refText_val ⟨c1, r1, f1, g1⟩ w he)
    have HBB := hide (fun w he => refText_val ⟨c2, r2, f2, g2⟩ w he)
    unfold Rf.cells at HA HBB
    have za : (⟨(refT ⟨c1, r1, f1, g1⟩).toArray⟩ : ByteArray).size ≤ 8 := refT_len ⟨c1, r1, f1, g1⟩
    have zb : (⟨(refT ⟨c2, r2, f2, g2⟩).toArray⟩ : ByteArray).size ≤ 8 := refT_len ⟨c2, r2, f2, g2⟩
    cases eS : (sh.toList == [])
    · clear z3
      cases eB : (bk.toList == [])
      · cases wd
        · have HT : Hid (⟨#[91]⟩ ++ bk ++ ⟨#[93]⟩ ++ (sh ++ ⟨#[33]⟩ ++ ((⟨(refT ⟨c1, r1, f1, g1⟩).toArray⟩ : ByteArray))) = ⟨(fullT ⟨bk, sh, ⟨c1, r1, f1, g1⟩, ⟨c2, r2, f2, g2⟩, false⟩).toArray⟩) := hide (by rw [fullT_good _ _ _ _ _ (unhide HGG), eS, eB]; apply ba_ext; simp)
          generalize (⟨(fullT ⟨bk, sh, ⟨c1, r1, f1, g1⟩, ⟨c2, r2, f2, g2⟩, false⟩).toArray⟩ : ByteArray) = T at HT ⊢
          generalize (⟨(refT ⟨c1, r1, f1, g1⟩).toArray⟩ : ByteArray) = A at HT HA za
          go_enter Tryz.func38, Tryz.ntmps38
          go_upto_region 1 with fail
          have P := hide (cells_new w 52 #[.string bk, .string sh, .int .i64 c1, .int .i64 r1, .bool f1, .bool g1, .int .i64 c2, .int .i64 r2, .bool f2, .bool g2, .bool false])
          have HB : Hid (Below w.heap.size w (w.alloc (.cells #[.string bk, .string sh, .int .i64 c1, .int .i64 r1, .bool f1, .bool g1, .int .i64 c2, .int .i64 r2, .bool f2, .bool g2, .bool false] 52))) := hide (below_al _ _)
          generalize hW : w.alloc (.cells #[.string bk, .string sh, .int .i64 c1, .int .i64 r1, .bool f1, .bool g1, .int .i64 c2, .int .i64 r2, .bool f2, .bool g2, .bool false] 52) = W0 at P HB ⊢
          clear hW
          obtain ⟨p_0, p_1, p_2, p_3, p_4, p_5, p_6, p_7, p_8, p_9, p_10⟩ := cells11 (unhide P)
          go_wp2_with fail
          refine (unhide HG _).mono ?_
          rintro e wk1 ⟨rfl, bk1⟩
          replace P := hide (cells_nx (unhide P) bk1)
          replace HB := hide (below_nx (unhide HB) bk1)
          clear bk1
          clear p_0 p_1 p_2 p_3 p_4 p_5 p_6 p_7 p_8 p_9 p_10
          obtain ⟨p_0, p_1, p_2, p_3, p_4, p_5, p_6, p_7, p_8, p_9, p_10⟩ := cells11 (unhide P)
          go_wp2_with fail
          refine (unhide HA _ ((unhide HE).below (unhide HB))).mono ?_
          rintro e wk2 ⟨rfl, bk2⟩
          replace P := hide (cells_nx (unhide P) bk2)
          replace HB := hide (below_nx (unhide HB) bk2)
          clear bk2
          clear p_0 p_1 p_2 p_3 p_4 p_5 p_6 p_7 p_8 p_9 p_10
          obtain ⟨p_0, p_1, p_2, p_3, p_4, p_5, p_6, p_7, p_8, p_9, p_10⟩ := cells11 (unhide P)
          go_wp2
          go_ret
          exact ⟨by rw [← unhide HT]; rfl, unhide HB⟩
        · have HT : Hid (⟨#[91]⟩ ++ bk ++ ⟨#[93]⟩ ++ (sh ++ ⟨#[33]⟩ ++ ((⟨(refT ⟨c1, r1, f1, g1⟩).toArray⟩ : ByteArray) ++ (⟨#[58]⟩ ++ (⟨(refT ⟨c2, r2, f2, g2⟩).toArray⟩ : ByteArray)))) = ⟨(fullT ⟨bk, sh, ⟨c1, r1, f1, g1⟩, ⟨c2, r2, f2, g2⟩, true⟩).toArray⟩) := hide (by rw [fullT_good _ _ _ _ _ (unhide HGG), eS, eB]; apply ba_ext; simp)
          generalize (⟨(fullT ⟨bk, sh, ⟨c1, r1, f1, g1⟩, ⟨c2, r2, f2, g2⟩, true⟩).toArray⟩ : ByteArray) = T at HT ⊢
          generalize (⟨(refT ⟨c1, r1, f1, g1⟩).toArray⟩ : ByteArray) = A at HT HA za
          generalize (⟨(refT ⟨c2, r2, f2, g2⟩).toArray⟩ : ByteArray) = B at HT HBB zb
          go_enter Tryz.func38, Tryz.ntmps38
          go_upto_region 1 with fail
          have P := hide (cells_new w 52 #[.string bk, .string sh, .int .i64 c1, .int .i64 r1, .bool f1, .bool g1, .int .i64 c2, .int .i64 r2, .bool f2, .bool g2, .bool true])
          have HB : Hid (Below w.heap.size w (w.alloc (.cells #[.string bk, .string sh, .int .i64 c1, .int .i64 r1, .bool f1, .bool g1, .int .i64 c2, .int .i64 r2, .bool f2, .bool g2, .bool true] 52))) := hide (below_al _ _)
          generalize hW : w.alloc (.cells #[.string bk, .string sh, .int .i64 c1, .int .i64 r1, .bool f1, .bool g1, .int .i64 c2, .int .i64 r2, .bool f2, .bool g2, .bool true] 52) = W0 at P HB ⊢
          clear hW
          obtain ⟨p_0, p_1, p_2, p_3, p_4, p_5, p_6, p_7, p_8, p_9, p_10⟩ := cells11 (unhide P)
          go_wp2_with fail
          refine (unhide HG _).mono ?_
          rintro e wk1 ⟨rfl, bk1⟩
          replace P := hide (cells_nx (unhide P) bk1)
          replace HB := hide (below_nx (unhide HB) bk1)
          clear bk1
          clear p_0 p_1 p_2 p_3 p_4 p_5 p_6 p_7 p_8 p_9 p_10
          obtain ⟨p_0, p_1, p_2, p_3, p_4, p_5, p_6, p_7, p_8, p_9, p_10⟩ := cells11 (unhide P)
          go_wp2_with fail
          refine (unhide HA _ ((unhide HE).below (unhide HB))).mono ?_
          rintro e wk2 ⟨rfl, bk2⟩
          replace P := hide (cells_nx (unhide P) bk2)
          replace HB := hide (below_nx (unhide HB) bk2)
          clear bk2
          clear p_0 p_1 p_2 p_3 p_4 p_5 p_6 p_7 p_8 p_9 p_10
          obtain ⟨p_0, p_1, p_2, p_3, p_4, p_5, p_6, p_7, p_8, p_9, p_10⟩ := cells11 (unhide P)
          go_wp2_with fail
          refine (unhide HBB _ ((unhide HE).below (unhide HB))).mono ?_
          rintro e wk3 ⟨rfl, bk3⟩
          replace P := hide (cells_nx (unhide P) bk3)
          replace HB := hide (below_nx (unhide HB) bk3)
          clear bk3
          clear p_0 p_1 p_2 p_3 p_4 p_5 p_6 p_7 p_8 p_9 p_10
          obtain ⟨p_0, p_1, p_2, p_3, p_4, p_5, p_6, p_7, p_8, p_9, p_10⟩ := cells11 (unhide P)
          go_wp2
          go_ret
          exact ⟨by rw [← unhide HT]; rfl, unhide HB⟩
      · cases wd
        · have HT : Hid (sh ++ ⟨#[33]⟩ ++ ((⟨(refT ⟨c1, r1, f1, g1⟩).toArray⟩ : ByteArray)) = ⟨(fullT ⟨bk, sh, ⟨c1, r1, f1, g1⟩, ⟨c2, r2, f2, g2⟩, false⟩).toArray⟩) := hide (by rw [fullT_good _ _ _ _ _ (unhide HGG), eS, eB]; apply ba_ext; simp)
          generalize (⟨(fullT ⟨bk, sh, ⟨c1, r1, f1, g1⟩, ⟨c2, r2, f2, g2⟩, false⟩).toArray⟩ : ByteArray) = T at HT ⊢
          generalize (⟨(refT ⟨c1, r1, f1, g1⟩).toArray⟩ : ByteArray) = A at HT HA za
          go_enter Tryz.func38, Tryz.ntmps38
          go_upto_region 1 with fail
          have P := hide (cells_new w 52 #[.string bk, .string sh, .int .i64 c1, .int .i64 r1, .bool f1, .bool g1, .int .i64 c2, .int .i64 r2, .bool f2, .bool g2, .bool false])
          have HB : Hid (Below w.heap.size w (w.alloc (.cells #[.string bk, .string sh, .int .i64 c1, .int .i64 r1, .bool f1, .bool g1, .int .i64 c2, .int .i64 r2, .bool f2, .bool g2, .bool false] 52))) := hide (below_al _ _)
          generalize hW : w.alloc (.cells #[.string bk, .string sh, .int .i64 c1, .int .i64 r1, .bool f1, .bool g1, .int .i64 c2, .int .i64 r2, .bool f2, .bool g2, .bool false] 52) = W0 at P HB ⊢
          clear hW
          obtain ⟨p_0, p_1, p_2, p_3, p_4, p_5, p_6, p_7, p_8, p_9, p_10⟩ := cells11 (unhide P)
          go_wp2_with fail
          refine (unhide HG _).mono ?_
          rintro e wk1 ⟨rfl, bk1⟩
          replace P := hide (cells_nx (unhide P) bk1)
          replace HB := hide (below_nx (unhide HB) bk1)
          clear bk1
          clear p_0 p_1 p_2 p_3 p_4 p_5 p_6 p_7 p_8 p_9 p_10
          obtain ⟨p_0, p_1, p_2, p_3, p_4, p_5, p_6, p_7, p_8, p_9, p_10⟩ := cells11 (unhide P)
          go_wp2_with fail
          refine (unhide HA _ ((unhide HE).below (unhide HB))).mono ?_
          rintro e wk2 ⟨rfl, bk2⟩
          replace P := hide (cells_nx (unhide P) bk2)
          replace HB := hide (below_nx (unhide HB) bk2)
          clear bk2
          clear p_0 p_1 p_2 p_3 p_4 p_5 p_6 p_7 p_8 p_9 p_10
          obtain ⟨p_0, p_1, p_2, p_3, p_4, p_5, p_6, p_7, p_8, p_9, p_10⟩ := cells11 (unhide P)
          go_wp2
          go_ret
          exact ⟨by rw [← unhide HT]; rfl, unhide HB⟩
        · have HT : Hid (sh ++ ⟨#[33]⟩ ++ ((⟨(refT ⟨c1, r1, f1, g1⟩).toArray⟩ : ByteArray) ++ (⟨#[58]⟩ ++ (⟨(refT ⟨c2, r2, f2, g2⟩).toArray⟩ : ByteArray))) = ⟨(fullT ⟨bk, sh, ⟨c1, r1, f1, g1⟩, ⟨c2, r2, f2, g2⟩, true⟩).toArray⟩) := hide (by rw [fullT_good _ _ _ _ _ (unhide HGG), eS, eB]; apply ba_ext; simp)
          generalize (⟨(fullT ⟨bk, sh, ⟨c1, r1, f1, g1⟩, ⟨c2, r2, f2, g2⟩, true⟩).toArray⟩ : ByteArray) = T at HT ⊢
          generalize (⟨(refT ⟨c1, r1, f1, g1⟩).toArray⟩ : ByteArray) = A at HT HA za
          generalize (⟨(refT ⟨c2, r2, f2, g2⟩).toArray⟩ : ByteArray) = B at HT HBB zb
          go_enter Tryz.func38, Tryz.ntmps38
          go_upto_region 1 with fail
          have P := hide (cells_new w 52 #[.string bk, .string sh, .int .i64 c1, .int .i64 r1, .bool f1, .bool g1, .int .i64 c2, .int .i64 r2, .bool f2, .bool g2, .bool true])
          have HB : Hid (Below w.heap.size w (w.alloc (.cells #[.string bk, .string sh, .int .i64 c1, .int .i64 r1, .bool f1, .bool g1, .int .i64 c2, .int .i64 r2, .bool f2, .bool g2, .bool true] 52))) := hide (below_al _ _)
          generalize hW : w.alloc (.cells #[.string bk, .string sh, .int .i64 c1, .int .i64 r1, .bool f1, .bool g1, .int .i64 c2, .int .i64 r2, .bool f2, .bool g2, .bool true] 52) = W0 at P HB ⊢
          clear hW
          obtain ⟨p_0, p_1, p_2, p_3, p_4, p_5, p_6, p_7, p_8, p_9, p_10⟩ := cells11 (unhide P)
          go_wp2_with fail
          refine (unhide HG _).mono ?_
          rintro e wk1 ⟨rfl, bk1⟩
          replace P := hide (cells_nx (unhide P) bk1)
          replace HB := hide (below_nx (unhide HB) bk1)
          clear bk1
          clear p_0 p_1 p_2 p_3 p_4 p_5 p_6 p_7 p_8 p_9 p_10
          obtain ⟨p_0, p_1, p_2, p_3, p_4, p_5, p_6, p_7, p_8, p_9, p_10⟩ := cells11 (unhide P)
          go_wp2_with fail
          refine (unhide HA _ ((unhide HE).below (unhide HB))).mono ?_
          rintro e wk2 ⟨rfl, bk2⟩
          replace P := hide (cells_nx (unhide P) bk2)
          replace HB := hide (below_nx (unhide HB) bk2)
          clear bk2
          clear p_0 p_1 p_2 p_3 p_4 p_5 p_6 p_7 p_8 p_9 p_10
          obtain ⟨p_0, p_1, p_2, p_3, p_4, p_5, p_6, p_7, p_8, p_9, p_10⟩ := cells11 (unhide P)
          go_wp2_with fail
          refine (unhide HBB _ ((unhide HE).below (unhide HB))).mono ?_
          rintro e wk3 ⟨rfl, bk3⟩
          replace P := hide (cells_nx (unhide P) bk3)
          replace HB := hide (below_nx (unhide HB) bk3)
          clear bk3
          clear p_0 p_1 p_2 p_3 p_4 p_5 p_6 p_7 p_8 p_9 p_10
          obtain ⟨p_0, p_1, p_2, p_3, p_4, p_5, p_6, p_7, p_8, p_9, p_10⟩ := cells11 (unhide P)
          go_wp2
          go_ret
          exact ⟨by rw [← unhide HT]; rfl, unhide HB⟩
    · have eB := z3 eS
      clear z3
      cases wd
      · have HT : Hid ((⟨(refT ⟨c1, r1, f1, g1⟩).toArray⟩ : ByteArray) = ⟨(fullT ⟨bk, sh, ⟨c1, r1, f1, g1⟩, ⟨c2, r2, f2, g2⟩, false⟩).toArray⟩) := hide (by rw [fullT_good _ _ _ _ _ (unhide HGG), eS, eB]; apply ba_ext; simp)
        generalize (⟨(fullT ⟨bk, sh, ⟨c1, r1, f1, g1⟩, ⟨c2, r2, f2, g2⟩, false⟩).toArray⟩ : ByteArray) = T at HT ⊢
        generalize (⟨(refT ⟨c1, r1, f1, g1⟩).toArray⟩ : ByteArray) = A at HT HA za
        go_enter Tryz.func38, Tryz.ntmps38
        go_upto_region 1 with fail
        have P := hide (cells_new w 52 #[.string bk, .string sh, .int .i64 c1, .int .i64 r1, .bool f1, .bool g1, .int .i64 c2, .int .i64 r2, .bool f2, .bool g2, .bool false])
        have HB : Hid (Below w.heap.size w (w.alloc (.cells #[.string bk, .string sh, .int .i64 c1, .int .i64 r1, .bool f1, .bool g1, .int .i64 c2, .int .i64 r2, .bool f2, .bool g2, .bool false] 52))) := hide (below_al _ _)
        generalize hW : w.alloc (.cells #[.string bk, .string sh, .int .i64 c1, .int .i64 r1, .bool f1, .bool g1, .int .i64 c2, .int .i64 r2, .bool f2, .bool g2, .bool false] 52) = W0 at P HB ⊢
        clear hW
        obtain ⟨p_0, p_1, p_2, p_3, p_4, p_5, p_6, p_7, p_8, p_9, p_10⟩ := cells11 (unhide P)
        go_wp2_with fail
        refine (unhide HG _).mono ?_
        rintro e wk1 ⟨rfl, bk1⟩
        replace P := hide (cells_nx (unhide P) bk1)
        replace HB := hide (below_nx (unhide HB) bk1)
        clear bk1
        clear p_0 p_1 p_2 p_3 p_4 p_5 p_6 p_7 p_8 p_9 p_10
        obtain ⟨p_0, p_1, p_2, p_3, p_4, p_5, p_6, p_7, p_8, p_9, p_10⟩ := cells11 (unhide P)
        go_wp2_with fail
        refine (unhide HA _ ((unhide HE).below (unhide HB))).mono ?_
        rintro e wk2 ⟨rfl, bk2⟩
        replace P := hide (cells_nx (unhide P) bk2)
        replace HB := hide (below_nx (unhide HB) bk2)
        clear bk2
        clear p_0 p_1 p_2 p_3 p_4 p_5 p_6 p_7 p_8 p_9 p_10
        obtain ⟨p_0, p_1, p_2, p_3, p_4, p_5, p_6, p_7, p_8, p_9, p_10⟩ := cells11 (unhide P)
        go_wp2
        go_ret
        exact ⟨by rw [← unhide HT]; rfl, unhide HB⟩
      · have HT : Hid ((⟨(refT ⟨c1, r1, f1, g1⟩).toArray⟩ : ByteArray) ++ (⟨#[58]⟩ ++ (⟨(refT ⟨c2, r2, f2, g2⟩).toArray⟩ : ByteArray)) = ⟨(fullT ⟨bk, sh, ⟨c1, r1, f1, g1⟩, ⟨c2, r2, f2, g2⟩, true⟩).toArray⟩) := hide (by rw [fullT_good _ _ _ _ _ (unhide HGG), eS, eB]; apply ba_ext; simp)
        generalize (⟨(fullT ⟨bk, sh, ⟨c1, r1, f1, g1⟩, ⟨c2, r2, f2, g2⟩, true⟩).toArray⟩ : ByteArray) = T at HT ⊢
        generalize (⟨(refT ⟨c1, r1, f1, g1⟩).toArray⟩ : ByteArray) = A at HT HA za
        generalize (⟨(refT ⟨c2, r2, f2, g2⟩).toArray⟩ : ByteArray) = B at HT HBB zb
        go_enter Tryz.func38, Tryz.ntmps38
        go_upto_region 1 with fail
        have P := hide (cells_new w 52 #[.string bk, .string sh, .int .i64 c1, .int .i64 r1, .bool f1, .bool g1, .int .i64 c2, .int .i64 r2, .bool f2, .bool g2, .bool true])
        have HB : Hid (Below w.heap.size w (w.alloc (.cells #[.string bk, .string sh, .int .i64 c1, .int .i64 r1, .bool f1, .bool g1, .int .i64 c2, .int .i64 r2, .bool f2, .bool g2, .bool true] 52))) := hide (below_al _ _)
        generalize hW : w.alloc (.cells #[.string bk, .string sh, .int .i64 c1, .int .i64 r1, .bool f1, .bool g1, .int .i64 c2, .int .i64 r2, .bool f2, .bool g2, .bool true] 52) = W0 at P HB ⊢
        clear hW
        obtain ⟨p_0, p_1, p_2, p_3, p_4, p_5, p_6, p_7, p_8, p_9, p_10⟩ := cells11 (unhide P)
        go_wp2_with fail
        refine (unhide HG _).mono ?_
        rintro e wk1 ⟨rfl, bk1⟩
        replace P := hide (cells_nx (unhide P) bk1)
        replace HB := hide (below_nx (unhide HB) bk1)
        clear bk1
        clear p_0 p_1 p_2 p_3 p_4 p_5 p_6 p_7 p_8 p_9 p_10
        obtain ⟨p_0, p_1, p_2, p_3, p_4, p_5, p_6, p_7, p_8, p_9, p_10⟩ := cells11 (unhide P)
        go_wp2_with fail
        refine (unhide HA _ ((unhide HE).below (unhide HB))).mono ?_
        rintro e wk2 ⟨rfl, bk2⟩
        replace P := hide (cells_nx (unhide P) bk2)
        replace HB := hide (below_nx (unhide HB) bk2)
        clear bk2
        clear p_0 p_1 p_2 p_3 p_4 p_5 p_6 p_7 p_8 p_9 p_10
        obtain ⟨p_0, p_1, p_2, p_3, p_4, p_5, p_6, p_7, p_8, p_9, p_10⟩ := cells11 (unhide P)
        go_wp2_with fail
        refine (unhide HBB _ ((unhide HE).below (unhide HB))).mono ?_
        rintro e wk3 ⟨rfl, bk3⟩
        replace P := hide (cells_nx (unhide P) bk3)
        replace HB := hide (below_nx (unhide HB) bk3)
        clear bk3
        clear p_0 p_1 p_2 p_3 p_4 p_5 p_6 p_7 p_8 p_9 p_10
        obtain ⟨p_0, p_1, p_2, p_3, p_4, p_5, p_6, p_7, p_8, p_9, p_10⟩ := cells11 (unhide P)
        go_wp2
        go_ret
        exact ⟨by rw [← unhide HT]; rfl, unhide HB⟩
end Go.Proofs.YtloamahbghjjgaaGreatDoor

namespace Go.Proofs.YtloamahbghjjgaaGreatDoor
open Go.RowKit

theorem results_c2 {P : Program} {fn : Func} {p q : Tmp} {ty ty' : TypeId} (h : fn.results = #[.cell p ty, .cell q ty']) (tmps : Array Value) (w : World) (g g' : Nat) (t t' : TypeId) (cs cs' : Array Value) (d d' : TypeDesc)
    (hp : tmps.getD p undef = .pointer (some ⟨g, 0, none⟩)) (hg : CellsAt w g t cs)
    (hu : P.underlying ty = some d) (hd : (match d with | .struct _ | .array _ _ => true | _ => false) = true) (hi : (P.info? ty).map (·.size) = some cs.size)
    (hp' : tmps.getD q undef = .pointer (some ⟨g', 0, none⟩)) (hg' : CellsAt w g' t' cs')
    (hu' : P.underlying ty' = some d') (hd' : (match d' with | .struct _ | .array _ _ => true | _ => false) = true) (hi' : (P.info? ty').map (·.size) = some cs'.size) :
    (results fn tmps).run P w = .ok (.tuple #[.agg cs, .agg cs']) w := by
  have hp2 : tmps[p]?.getD undef = .pointer (some ⟨g, 0, none⟩) := by simpa using hp
  have hp3 : tmps[q]?.getD undef = .pointer (some ⟨g', 0, none⟩) := by simpa using hp'
  simp [results, h, hp2, hp3, asAddr, run_loadVar_row w g t ty cs (0, 0) d hg hu hd hi, run_loadVar_row w g' t' ty' cs' (0, 0) d' hg' hu' hd' hi']
structure CornAt (w wx : World) (F T : Nat) (p q r t : Array Value) : Prop where
  p : CellsAt wx w.heap.size 50 p
  q : CellsAt wx (w.heap.size + 1) 50 q
  r0 : CellsAt wx (w.heap.size + 1 + 1) 50 #[.int .i64 0, .int .i64 0, .bool false, .bool false]
  r1 : CellsAt wx (w.heap.size + 1 + 1 + 1) 50 #[.int .i64 0, .int .i64 0, .bool false, .bool false]
  f : CellsAt wx F 50 r
  t : CellsAt wx T 50 t
  hb : Below w.heap.size w wx
  ne : F ≠ T
  fl : w.heap.size + 3 < F
  tl : w.heap.size + 3 < T
theorem CornAt.set {w wx : World} {F T : Nat} {p q r t : Array Value} (h : CornAt w wx F T p q r t) (i : Nat) (x y : Value) :
    CornAt w ((wx.setCell ⟨F, i, none⟩ x).setCell ⟨T, i, none⟩ y) F T p q (r.setIfInBounds i x) (t.setIfInBounds i y) where
  p := cells_set_far (cells_set_far h.p (by have := h.fl; omega) i x) (by have := h.tl; omega) i y
  q := cells_set_far (cells_set_far h.q (by have := h.fl; omega) i x) (by have := h.tl; omega) i y
  r0 := cells_set_far (cells_set_far h.r0 (by have := h.fl; omega) i x) (by have := h.tl; omega) i y
  r1 := cells_set_far (cells_set_far h.r1 (by have := h.fl; omega) i x) (by have := h.tl; omega) i y
  f := cells_set_far (cells_set h.f i x) h.ne i y
  t := cells_set (cells_set_far h.t (Ne.symm h.ne) i x) i y
  hb := below_set (below_set h.hb (by have := h.fl; omega) x) (by have := h.tl; omega) y
  ne := h.ne
  fl := h.fl
  tl := h.tl
theorem CornAt.drew {w wx : World} {F T : Nat} {p q r t : Array Value} (h : CornAt w wx F T p q r t) : CornAt w wx.drew F T p q r t := ⟨h.p, h.q, h.r0, h.r1, h.f, h.t, h.hb.drew, h.ne, h.fl, h.tl⟩
theorem cells_new4 (w : World) (o p q : Obj) (t : TypeId) (cs : Array Value) : CellsAt ((((w.alloc o).alloc p).alloc q).alloc (.cells cs t)) (w.heap.size + 3) t cs := by
  unfold CellsAt
  show ((((w.heap.push o).push p).push q).push _)[w.heap.size + 3]? = _
  rw [Array.getElem?_push, if_pos (by simp)]
theorem cells_new5 (w : World) (o p q r : Obj) (t : TypeId) (cs : Array Value) : CellsAt (((((w.alloc o).alloc p).alloc q).alloc r).alloc (.cells cs t)) (w.heap.size + 4) t cs := by
  unfold CellsAt
  show (((((w.heap.push o).push p).push q).push r).push _)[w.heap.size + 4]? = _
  rw [Array.getElem?_push, if_pos (by simp)]
theorem cells_new6 (w : World) (o p q r u : Obj) (t : TypeId) (cs : Array Value) : CellsAt ((((((w.alloc o).alloc p).alloc q).alloc r).alloc u).alloc (.cells cs t)) (w.heap.size + 5) t cs := by
  unfold CellsAt
  show ((((((w.heap.push o).push p).push q).push r).push u).push _)[w.heap.size + 5]? = _
  rw [Array.getElem?_push, if_pos (by simp)]
theorem below_al6 (w : World) (o p q r u v : Obj) : Below w.heap.size w ((((((w.alloc o).alloc p).alloc q).alloc r).alloc u).alloc v) :=
  ((((below_al3 w o p q).alloc (below_al3 w o p q).size r).alloc (by simp; omega) u).alloc (by simp; omega) v)

set_option maxRecDepth 100000 in
set_option maxHeartbeats 4000000 in
theorem corners_val (a b : Int) (f1 f2 : Bool) (c d : Int) (f3 f4 : Bool) (w : World) :
    Calls Tryz.prog 188 #[.agg #[.int .i64 a, .int .i64 b, .bool f1, .bool f2], .agg #[.int .i64 c, .int .i64 d, .bool f3, .bool f4]] w fun e w' => e = .returned (.tuple #[.agg (cornA ⟨a, b, f1, f2⟩ ⟨c, d, f3, f4⟩).cells, .agg (cornB ⟨a, b, f1, f2⟩ ⟨c, d, f3, f4⟩).cells]) ∧ Below w.heap.size w w' := by
  obtain ⟨ra, hra⟩ : ∃ x, (cornA ⟨a, b, f1, f2⟩ ⟨c, d, f3, f4⟩).cells = x := ⟨_, rfl⟩
  obtain ⟨rb, hrb⟩ : ∃ x, (cornB ⟨a, b, f1, f2⟩ ⟨c, d, f3, f4⟩).cells = x := ⟨_, rfl⟩
  rw [hra, hrb]
  have HR := hide (And.intro hra hrb)
  clear hra hrb
  go_enter Tryz.func188, Tryz.ntmps188
  go_upto_region 1 with fail
  have P := hide (cells_al (cells_al (cells_al (cells_new w 50 #[.int .i64 a, .int .i64 b, .bool f1, .bool f2]) (.cells #[.int .i64 c, .int .i64 d, .bool f3, .bool f4] 50)) (.cells #[.int .i64 0, .int .i64 0, .bool false, .bool false] 50)) (.cells #[.int .i64 0, .int .i64 0, .bool false, .bool false] 50))
  have Q := hide (cells_al (cells_al (cells_new2 w (.cells #[.int .i64 a, .int .i64 b, .bool f1, .bool f2] 50) 50 #[.int .i64 c, .int .i64 d, .bool f3, .bool f4]) (.cells #[.int .i64 0, .int .i64 0, .bool false, .bool false] 50)) (.cells #[.int .i64 0, .int .i64 0, .bool false, .bool false] 50))
  have R0 := hide (cells_al (cells_new3 w (.cells #[.int .i64 a, .int .i64 b, .bool f1, .bool f2] 50) (.cells #[.int .i64 c, .int .i64 d, .bool f3, .bool f4] 50) 50 #[.int .i64 0, .int .i64 0, .bool false, .bool false]) (.cells #[.int .i64 0, .int .i64 0, .bool false, .bool false] 50))
  have R1 := hide (cells_new4 w (.cells #[.int .i64 a, .int .i64 b, .bool f1, .bool f2] 50) (.cells #[.int .i64 c, .int .i64 d, .bool f3, .bool f4] 50) (.cells #[.int .i64 0, .int .i64 0, .bool false, .bool false] 50) 50 #[.int .i64 0, .int .i64 0, .bool false, .bool false])
  go_cut [6, 7] from 8 to 9 (fun v6 v7 wx => ∃ F T : Nat, v6 = .pointer (some ⟨F, 0, none⟩) ∧ v7 = .pointer (some ⟨T, 0, none⟩) ∧ Hid (CornAt w wx F T #[.int .i64 a, .int .i64 b, .bool f1, .bool f2] #[.int .i64 c, .int .i64 d, .bool f3, .bool f4] #[.int .i64 a, .int .i64 b, .bool f1, .bool f2] #[.int .i64 c, .int .i64 d, .bool f3, .bool f4]))
  case first =>
    go_region
    all_goals (try go_wp2_with fail)
    all_goals go_meet
    case rel => exact ⟨_, _, rfl, rfl, hide ⟨cells_drew (cells_al (cells_al (unhide P) _) _), cells_drew (cells_al (cells_al (unhide Q) _) _), cells_drew (cells_al (cells_al (unhide R0) _) _), cells_drew (cells_al (cells_al (unhide R1) _) _), cells_drew (cells_al (cells_new5 w _ _ _ _ _ _) _), cells_drew (cells_new6 w _ _ _ _ _ _ _), (below_al6 w _ _ _ _ _ _).drew, by omega, by omega, by omega⟩⟩
    case rel => exact ⟨_, _, rfl, rfl, hide ⟨cells_drew (cells_al (cells_al (unhide P) _) _), cells_drew (cells_al (cells_al (unhide Q) _) _), cells_drew (cells_al (cells_al (unhide R0) _) _), cells_drew (cells_al (cells_al (unhide R1) _) _), cells_drew (cells_new6 w _ _ _ _ _ _ _), cells_drew (cells_al (cells_new5 w _ _ _ _ _ _) _), (below_al6 w _ _ _ _ _ _).drew, by omega, by omega, by omega⟩⟩
  case rest =>
    obtain ⟨F, T, rfl, rfl, K⟩ := hcut
    clear P Q R0 R1
    have n1 : F ≠ w.heap.size := by have := (unhide K).fl; omega
    have n2 : F ≠ w.heap.size + 1 := by have := (unhide K).fl; omega
    have n3 : F ≠ w.heap.size + 1 + 1 := by have := (unhide K).fl; omega
    have n4 : F ≠ w.heap.size + 1 + 1 + 1 := by have := (unhide K).fl; omega
    have n5 : T ≠ w.heap.size := by have := (unhide K).tl; omega
    have n6 : T ≠ w.heap.size + 1 := by have := (unhide K).tl; omega
    have n7 : T ≠ w.heap.size + 1 + 1 := by have := (unhide K).tl; omega
    have n8 : T ≠ w.heap.size + 1 + 1 + 1 := by have := (unhide K).tl; omega
    have n9 : F ≠ T := (unhide K).ne
    by_cases hc : c < a
    · by_cases hd : d < b
      · have HE := hide (And.intro hc hd)
        obtain ⟨p_0, p_1, p_2, p_3⟩ := cells4 (unhide K).p
        obtain ⟨q_0, q_1, q_2, q_3⟩ := cells4 (unhide K).q
        go_upto_region 3 with fail
        clear p_0 p_1 p_2 p_3 q_0 q_1 q_2 q_3
        obtain ⟨p_0, p_1, p_2, p_3⟩ := cells4 (unhide K).p
        obtain ⟨q_0, q_1, q_2, q_3⟩ := cells4 (unhide K).q
        have hf := cells_f (unhide K).f 0
        have ht := cells_f (unhide K).t 0
        obtain ⟨a_0, a_1, a_2, a_3⟩ := cells4 (unhide K).f
        obtain ⟨b_0, b_1, b_2, b_3⟩ := cells4 (unhide K).t
        have S0 := hide (And.intro (cells4 (cells_drew (unhide K).p)).1 (cells4 (cells_drew (unhide K).q)).1)
        have S1 := hide (And.intro (cells4 (cells_drew (cells_set_far (unhide K).p (Ne.symm n1) 0 (.int .i64 c)))).1 (cells4 (cells_drew (cells_set_far (unhide K).q (Ne.symm n2) 0 (.int .i64 c)))).1)
        have S2 := hide (And.intro (cells4 (cells_drew (cells_set_far (cells_set_far (unhide K).p (Ne.symm n1) 0 (.int .i64 c)) (Ne.symm n5) 0 (.int .i64 a)))).1 (cells4 (cells_drew (cells_set_far (cells_set_far (unhide K).q (Ne.symm n2) 0 (.int .i64 c)) (Ne.symm n6) 0 (.int .i64 a)))).1)
        go_region_held3 (fun w' => w'.cell? ⟨w.heap.size, 0, none⟩ = some (.int .i64 a) ∧ w'.cell? ⟨w.heap.size + 1, 0, none⟩ = some (.int .i64 c)) (first | with_reducible exact unhide S0 | with_reducible exact unhide S1 | with_reducible exact unhide S2) (fail)
        clear p_0 p_1 p_2 p_3 q_0 q_1 q_2 q_3 hf ht a_0 a_1 a_2 a_3 b_0 b_1 b_2 b_3 S0 S1 S2
        replace K := hide ((unhide K).set 0 (.int .i64 c) (.int .i64 a)).drew
        go_upto_region 4 with fail
        generalize hW : ((wc.setCell ⟨F, 0, none⟩ (.int .i64 c)).setCell ⟨T, 0, none⟩ (.int .i64 a)).drew = WW at K ⊢
        clear hW
        obtain ⟨p_0, p_1, p_2, p_3⟩ := cells4 (unhide K).p
        obtain ⟨q_0, q_1, q_2, q_3⟩ := cells4 (unhide K).q
        have hf := cells_f (unhide K).f 2
        have ht := cells_f (unhide K).t 2
        obtain ⟨a_0, a_1, a_2, a_3⟩ := cells4 (unhide K).f
        obtain ⟨b_0, b_1, b_2, b_3⟩ := cells4 (unhide K).t
        have S0 := hide (And.intro (cells4 (cells_drew (unhide K).p)).2.2.1 (cells4 (cells_drew (unhide K).q)).2.2.1)
        have S1 := hide (And.intro (cells4 (cells_drew (cells_set_far (unhide K).p (Ne.symm n1) 2 (.bool f3)))).2.2.1 (cells4 (cells_drew (cells_set_far (unhide K).q (Ne.symm n2) 2 (.bool f3)))).2.2.1)
        have S2 := hide (And.intro (cells4 (cells_drew (cells_set_far (cells_set_far (unhide K).p (Ne.symm n1) 2 (.bool f3)) (Ne.symm n5) 2 (.bool f1)))).2.2.1 (cells4 (cells_drew (cells_set_far (cells_set_far (unhide K).q (Ne.symm n2) 2 (.bool f3)) (Ne.symm n6) 2 (.bool f1)))).2.2.1)
        go_region_held3 (fun w' => w'.cell? ⟨w.heap.size, 2, none⟩ = some (.bool f1) ∧ w'.cell? ⟨w.heap.size + 1, 2, none⟩ = some (.bool f3)) (first | with_reducible exact unhide S0 | with_reducible exact unhide S1 | with_reducible exact unhide S2) (fail)
        clear p_0 p_1 p_2 p_3 q_0 q_1 q_2 q_3 hf ht a_0 a_1 a_2 a_3 b_0 b_1 b_2 b_3 S0 S1 S2
        replace K := hide ((unhide K).set 2 (.bool f3) (.bool f1)).drew
        go_upto_region 5 with fail
        generalize hW : ((WW.setCell ⟨F, 2, none⟩ (.bool f3)).setCell ⟨T, 2, none⟩ (.bool f1)).drew = WW at K ⊢
        clear hW
        obtain ⟨p_0, p_1, p_2, p_3⟩ := cells4 (unhide K).p
        obtain ⟨q_0, q_1, q_2, q_3⟩ := cells4 (unhide K).q
        go_upto_region 6 with fail
        clear p_0 p_1 p_2 p_3 q_0 q_1 q_2 q_3
        obtain ⟨p_0, p_1, p_2, p_3⟩ := cells4 (unhide K).p
        obtain ⟨q_0, q_1, q_2, q_3⟩ := cells4 (unhide K).q
        have hf := cells_f (unhide K).f 1
        have ht := cells_f (unhide K).t 1
        obtain ⟨a_0, a_1, a_2, a_3⟩ := cells4 (unhide K).f
        obtain ⟨b_0, b_1, b_2, b_3⟩ := cells4 (unhide K).t
        have S0 := hide (And.intro (cells4 (cells_drew (unhide K).p)).2.1 (cells4 (cells_drew (unhide K).q)).2.1)
        have S1 := hide (And.intro (cells4 (cells_drew (cells_set_far (unhide K).p (Ne.symm n1) 1 (.int .i64 d)))).2.1 (cells4 (cells_drew (cells_set_far (unhide K).q (Ne.symm n2) 1 (.int .i64 d)))).2.1)
        have S2 := hide (And.intro (cells4 (cells_drew (cells_set_far (cells_set_far (unhide K).p (Ne.symm n1) 1 (.int .i64 d)) (Ne.symm n5) 1 (.int .i64 b)))).2.1 (cells4 (cells_drew (cells_set_far (cells_set_far (unhide K).q (Ne.symm n2) 1 (.int .i64 d)) (Ne.symm n6) 1 (.int .i64 b)))).2.1)
        go_region_held3 (fun w' => w'.cell? ⟨w.heap.size, 1, none⟩ = some (.int .i64 b) ∧ w'.cell? ⟨w.heap.size + 1, 1, none⟩ = some (.int .i64 d)) (first | with_reducible exact unhide S0 | with_reducible exact unhide S1 | with_reducible exact unhide S2) (fail)
        clear p_0 p_1 p_2 p_3 q_0 q_1 q_2 q_3 hf ht a_0 a_1 a_2 a_3 b_0 b_1 b_2 b_3 S0 S1 S2
        replace K := hide ((unhide K).set 1 (.int .i64 d) (.int .i64 b)).drew
        go_upto_region 7 with fail
        generalize hW : ((WW.setCell ⟨F, 1, none⟩ (.int .i64 d)).setCell ⟨T, 1, none⟩ (.int .i64 b)).drew = WW at K ⊢
        clear hW
        obtain ⟨p_0, p_1, p_2, p_3⟩ := cells4 (unhide K).p
        obtain ⟨q_0, q_1, q_2, q_3⟩ := cells4 (unhide K).q
        have hf := cells_f (unhide K).f 3
        have ht := cells_f (unhide K).t 3
        obtain ⟨a_0, a_1, a_2, a_3⟩ := cells4 (unhide K).f
        obtain ⟨b_0, b_1, b_2, b_3⟩ := cells4 (unhide K).t
        have S0 := hide (And.intro (cells4 (cells_drew (unhide K).p)).2.2.2 (cells4 (cells_drew (unhide K).q)).2.2.2)
        have S1 := hide (And.intro (cells4 (cells_drew (cells_set_far (unhide K).p (Ne.symm n1) 3 (.bool f4)))).2.2.2 (cells4 (cells_drew (cells_set_far (unhide K).q (Ne.symm n2) 3 (.bool f4)))).2.2.2)
        have S2 := hide (And.intro (cells4 (cells_drew (cells_set_far (cells_set_far (unhide K).p (Ne.symm n1) 3 (.bool f4)) (Ne.symm n5) 3 (.bool f2)))).2.2.2 (cells4 (cells_drew (cells_set_far (cells_set_far (unhide K).q (Ne.symm n2) 3 (.bool f4)) (Ne.symm n6) 3 (.bool f2)))).2.2.2)
        go_region_held3 (fun w' => w'.cell? ⟨w.heap.size, 3, none⟩ = some (.bool f2) ∧ w'.cell? ⟨w.heap.size + 1, 3, none⟩ = some (.bool f4)) (first | with_reducible exact unhide S0 | with_reducible exact unhide S1 | with_reducible exact unhide S2) (fail)
        clear p_0 p_1 p_2 p_3 q_0 q_1 q_2 q_3 hf ht a_0 a_1 a_2 a_3 b_0 b_1 b_2 b_3 S0 S1 S2
        replace K := hide ((unhide K).set 3 (.bool f4) (.bool f2)).drew
        go_upto_region 8 with fail
        generalize hW : ((WW.setCell ⟨F, 3, none⟩ (.bool f4)).setCell ⟨T, 3, none⟩ (.bool f2)).drew = WW at K ⊢
        clear hW
        obtain ⟨f_0, f_1, f_2, f_3⟩ := cells4 (unhide K).f
        obtain ⟨t_0, t_1, t_2, t_3⟩ := cells4 (unhide K).t
        obtain ⟨x_0, x_1, x_2, x_3⟩ := cells4 (unhide K).r0
        obtain ⟨y_0, y_1, y_2, y_3⟩ := cells4 (unhide K).r1
        have hx0 := cells_f (unhide K).r0 0
        have hy0 := cells_f (unhide K).r1 0
        have hx1 := cells_f (unhide K).r0 1
        have hy1 := cells_f (unhide K).r1 1
        have hx2 := cells_f (unhide K).r0 2
        have hy2 := cells_f (unhide K).r1 2
        have hx3 := cells_f (unhide K).r0 3
        have hy3 := cells_f (unhide K).r1 3
        have S0 : Hid (WW.drew.cell? ⟨F, 0, none⟩ = some (.int .i64 c) ∧ WW.drew.cell? ⟨F, 1, none⟩ = some (.int .i64 d) ∧ WW.drew.cell? ⟨F, 2, none⟩ = some (.bool f3) ∧ WW.drew.cell? ⟨F, 3, none⟩ = some (.bool f4) ∧ WW.drew.cell? ⟨T, 0, none⟩ = some (.int .i64 a) ∧ WW.drew.cell? ⟨T, 1, none⟩ = some (.int .i64 b) ∧ WW.drew.cell? ⟨T, 2, none⟩ = some (.bool f1) ∧ WW.drew.cell? ⟨T, 3, none⟩ = some (.bool f2)) := hide ⟨(cells4 (cells_drew ((unhide K).f))).1, (cells4 (cells_drew ((unhide K).f))).2.1, (cells4 (cells_drew ((unhide K).f))).2.2.1, (cells4 (cells_drew ((unhide K).f))).2.2.2, (cells4 (cells_drew ((unhide K).t))).1, (cells4 (cells_drew ((unhide K).t))).2.1, (cells4 (cells_drew ((unhide K).t))).2.2.1, (cells4 (cells_drew ((unhide K).t))).2.2.2⟩
        have S1 : Hid (((((WW.setCell ⟨w.heap.size + 1 + 1, 0, none⟩ (.int .i64 c)).setCell ⟨w.heap.size + 1 + 1, 1, none⟩ (.int .i64 d)).setCell ⟨w.heap.size + 1 + 1, 2, none⟩ (.bool f3)).setCell ⟨w.heap.size + 1 + 1, 3, none⟩ (.bool f4)).drew.cell? ⟨F, 0, none⟩ = some (.int .i64 c) ∧ ((((WW.setCell ⟨w.heap.size + 1 + 1, 0, none⟩ (.int .i64 c)).setCell ⟨w.heap.size + 1 + 1, 1, none⟩ (.int .i64 d)).setCell ⟨w.heap.size + 1 + 1, 2, none⟩ (.bool f3)).setCell ⟨w.heap.size + 1 + 1, 3, none⟩ (.bool f4)).drew.cell? ⟨F, 1, none⟩ = some (.int .i64 d) ∧ ((((WW.setCell ⟨w.heap.size + 1 + 1, 0, none⟩ (.int .i64 c)).setCell ⟨w.heap.size + 1 + 1, 1, none⟩ (.int .i64 d)).setCell ⟨w.heap.size + 1 + 1, 2, none⟩ (.bool f3)).setCell ⟨w.heap.size + 1 + 1, 3, none⟩ (.bool f4)).drew.cell? ⟨F, 2, none⟩ = some (.bool f3) ∧ ((((WW.setCell ⟨w.heap.size + 1 + 1, 0, none⟩ (.int .i64 c)).setCell ⟨w.heap.size + 1 + 1, 1, none⟩ (.int .i64 d)).setCell ⟨w.heap.size + 1 + 1, 2, none⟩ (.bool f3)).setCell ⟨w.heap.size + 1 + 1, 3, none⟩ (.bool f4)).drew.cell? ⟨F, 3, none⟩ = some (.bool f4) ∧ ((((WW.setCell ⟨w.heap.size + 1 + 1, 0, none⟩ (.int .i64 c)).setCell ⟨w.heap.size + 1 + 1, 1, none⟩ (.int .i64 d)).setCell ⟨w.heap.size + 1 + 1, 2, none⟩ (.bool f3)).setCell ⟨w.heap.size + 1 + 1, 3, none⟩ (.bool f4)).drew.cell? ⟨T, 0, none⟩ = some (.int .i64 a) ∧ ((((WW.setCell ⟨w.heap.size + 1 + 1, 0, none⟩ (.int .i64 c)).setCell ⟨w.heap.size + 1 + 1, 1, none⟩ (.int .i64 d)).setCell ⟨w.heap.size + 1 + 1, 2, none⟩ (.bool f3)).setCell ⟨w.heap.size + 1 + 1, 3, none⟩ (.bool f4)).drew.cell? ⟨T, 1, none⟩ = some (.int .i64 b) ∧ ((((WW.setCell ⟨w.heap.size + 1 + 1, 0, none⟩ (.int .i64 c)).setCell ⟨w.heap.size + 1 + 1, 1, none⟩ (.int .i64 d)).setCell ⟨w.heap.size + 1 + 1, 2, none⟩ (.bool f3)).setCell ⟨w.heap.size + 1 + 1, 3, none⟩ (.bool f4)).drew.cell? ⟨T, 2, none⟩ = some (.bool f1) ∧ ((((WW.setCell ⟨w.heap.size + 1 + 1, 0, none⟩ (.int .i64 c)).setCell ⟨w.heap.size + 1 + 1, 1, none⟩ (.int .i64 d)).setCell ⟨w.heap.size + 1 + 1, 2, none⟩ (.bool f3)).setCell ⟨w.heap.size + 1 + 1, 3, none⟩ (.bool f4)).drew.cell? ⟨T, 3, none⟩ = some (.bool f2)) := hide ⟨(cells4 (cells_drew (cells_far4 (unhide K).f n3 (.int .i64 c) (.int .i64 d) (.bool f3) (.bool f4)))).1, (cells4 (cells_drew (cells_far4 (unhide K).f n3 (.int .i64 c) (.int .i64 d) (.bool f3) (.bool f4)))).2.1, (cells4 (cells_drew (cells_far4 (unhide K).f n3 (.int .i64 c) (.int .i64 d) (.bool f3) (.bool f4)))).2.2.1, (cells4 (cells_drew (cells_far4 (unhide K).f n3 (.int .i64 c) (.int .i64 d) (.bool f3) (.bool f4)))).2.2.2, (cells4 (cells_drew (cells_far4 (unhide K).t n7 (.int .i64 c) (.int .i64 d) (.bool f3) (.bool f4)))).1, (cells4 (cells_drew (cells_far4 (unhide K).t n7 (.int .i64 c) (.int .i64 d) (.bool f3) (.bool f4)))).2.1, (cells4 (cells_drew (cells_far4 (unhide K).t n7 (.int .i64 c) (.int .i64 d) (.bool f3) (.bool f4)))).2.2.1, (cells4 (cells_drew (cells_far4 (unhide K).t n7 (.int .i64 c) (.int .i64 d) (.bool f3) (.bool f4)))).2.2.2⟩
        have S2 : Hid (((((((((WW.setCell ⟨w.heap.size + 1 + 1, 0, none⟩ (.int .i64 c)).setCell ⟨w.heap.size + 1 + 1, 1, none⟩ (.int .i64 d)).setCell ⟨w.heap.size + 1 + 1, 2, none⟩ (.bool f3)).setCell ⟨w.heap.size + 1 + 1, 3, none⟩ (.bool f4)).setCell ⟨w.heap.size + 1 + 1 + 1, 0, none⟩ (.int .i64 a)).setCell ⟨w.heap.size + 1 + 1 + 1, 1, none⟩ (.int .i64 b)).setCell ⟨w.heap.size + 1 + 1 + 1, 2, none⟩ (.bool f1)).setCell ⟨w.heap.size + 1 + 1 + 1, 3, none⟩ (.bool f2)).drew.cell? ⟨F, 0, none⟩ = some (.int .i64 c) ∧ ((((((((WW.setCell ⟨w.heap.size + 1 + 1, 0, none⟩ (.int .i64 c)).setCell ⟨w.heap.size + 1 + 1, 1, none⟩ (.int .i64 d)).setCell ⟨w.heap.size + 1 + 1, 2, none⟩ (.bool f3)).setCell ⟨w.heap.size + 1 + 1, 3, none⟩ (.bool f4)).setCell ⟨w.heap.size + 1 + 1 + 1, 0, none⟩ (.int .i64 a)).setCell ⟨w.heap.size + 1 + 1 + 1, 1, none⟩ (.int .i64 b)).setCell ⟨w.heap.size + 1 + 1 + 1, 2, none⟩ (.bool f1)).setCell ⟨w.heap.size + 1 + 1 + 1, 3, none⟩ (.bool f2)).drew.cell? ⟨F, 1, none⟩ = some (.int .i64 d) ∧ ((((((((WW.setCell ⟨w.heap.size + 1 + 1, 0, none⟩ (.int .i64 c)).setCell ⟨w.heap.size + 1 + 1, 1, none⟩ (.int .i64 d)).setCell ⟨w.heap.size + 1 + 1, 2, none⟩ (.bool f3)).setCell ⟨w.heap.size + 1 + 1, 3, none⟩ (.bool f4)).setCell ⟨w.heap.size + 1 + 1 + 1, 0, none⟩ (.int .i64 a)).setCell ⟨w.heap.size + 1 + 1 + 1, 1, none⟩ (.int .i64 b)).setCell ⟨w.heap.size + 1 + 1 + 1, 2, none⟩ (.bool f1)).setCell ⟨w.heap.size + 1 + 1 + 1, 3, none⟩ (.bool f2)).drew.cell? ⟨F, 2, none⟩ = some (.bool f3) ∧ ((((((((WW.setCell ⟨w.heap.size + 1 + 1, 0, none⟩ (.int .i64 c)).setCell ⟨w.heap.size + 1 + 1, 1, none⟩ (.int .i64 d)).setCell ⟨w.heap.size + 1 + 1, 2, none⟩ (.bool f3)).setCell ⟨w.heap.size + 1 + 1, 3, none⟩ (.bool f4)).setCell ⟨w.heap.size + 1 + 1 + 1, 0, none⟩ (.int .i64 a)).setCell ⟨w.heap.size + 1 + 1 + 1, 1, none⟩ (.int .i64 b)).setCell ⟨w.heap.size + 1 + 1 + 1, 2, none⟩ (.bool f1)).setCell ⟨w.heap.size + 1 + 1 + 1, 3, none⟩ (.bool f2)).drew.cell? ⟨F, 3, none⟩ = some (.bool f4) ∧ ((((((((WW.setCell ⟨w.heap.size + 1 + 1, 0, none⟩ (.int .i64 c)).setCell ⟨w.heap.size + 1 + 1, 1, none⟩ (.int .i64 d)).setCell ⟨w.heap.size + 1 + 1, 2, none⟩ (.bool f3)).setCell ⟨w.heap.size + 1 + 1, 3, none⟩ (.bool f4)).setCell ⟨w.heap.size + 1 + 1 + 1, 0, none⟩ (.int .i64 a)).setCell ⟨w.heap.size + 1 + 1 + 1, 1, none⟩ (.int .i64 b)).setCell ⟨w.heap.size + 1 + 1 + 1, 2, none⟩ (.bool f1)).setCell ⟨w.heap.size + 1 + 1 + 1, 3, none⟩ (.bool f2)).drew.cell? ⟨T, 0, none⟩ = some (.int .i64 a) ∧ ((((((((WW.setCell ⟨w.heap.size + 1 + 1, 0, none⟩ (.int .i64 c)).setCell ⟨w.heap.size + 1 + 1, 1, none⟩ (.int .i64 d)).setCell ⟨w.heap.size + 1 + 1, 2, none⟩ (.bool f3)).setCell ⟨w.heap.size + 1 + 1, 3, none⟩ (.bool f4)).setCell ⟨w.heap.size + 1 + 1 + 1, 0, none⟩ (.int .i64 a)).setCell ⟨w.heap.size + 1 + 1 + 1, 1, none⟩ (.int .i64 b)).setCell ⟨w.heap.size + 1 + 1 + 1, 2, none⟩ (.bool f1)).setCell ⟨w.heap.size + 1 + 1 + 1, 3, none⟩ (.bool f2)).drew.cell? ⟨T, 1, none⟩ = some (.int .i64 b) ∧ ((((((((WW.setCell ⟨w.heap.size + 1 + 1, 0, none⟩ (.int .i64 c)).setCell ⟨w.heap.size + 1 + 1, 1, none⟩ (.int .i64 d)).setCell ⟨w.heap.size + 1 + 1, 2, none⟩ (.bool f3)).setCell ⟨w.heap.size + 1 + 1, 3, none⟩ (.bool f4)).setCell ⟨w.heap.size + 1 + 1 + 1, 0, none⟩ (.int .i64 a)).setCell ⟨w.heap.size + 1 + 1 + 1, 1, none⟩ (.int .i64 b)).setCell ⟨w.heap.size + 1 + 1 + 1, 2, none⟩ (.bool f1)).setCell ⟨w.heap.size + 1 + 1 + 1, 3, none⟩ (.bool f2)).drew.cell? ⟨T, 2, none⟩ = some (.bool f1) ∧ ((((((((WW.setCell ⟨w.heap.size + 1 + 1, 0, none⟩ (.int .i64 c)).setCell ⟨w.heap.size + 1 + 1, 1, none⟩ (.int .i64 d)).setCell ⟨w.heap.size + 1 + 1, 2, none⟩ (.bool f3)).setCell ⟨w.heap.size + 1 + 1, 3, none⟩ (.bool f4)).setCell ⟨w.heap.size + 1 + 1 + 1, 0, none⟩ (.int .i64 a)).setCell ⟨w.heap.size + 1 + 1 + 1, 1, none⟩ (.int .i64 b)).setCell ⟨w.heap.size + 1 + 1 + 1, 2, none⟩ (.bool f1)).setCell ⟨w.heap.size + 1 + 1 + 1, 3, none⟩ (.bool f2)).drew.cell? ⟨T, 3, none⟩ = some (.bool f2)) := hide ⟨(cells4 (cells_drew (cells_far4 (cells_far4 (unhide K).f n3 (.int .i64 c) (.int .i64 d) (.bool f3) (.bool f4)) n4 (.int .i64 a) (.int .i64 b) (.bool f1) (.bool f2)))).1, (cells4 (cells_drew (cells_far4 (cells_far4 (unhide K).f n3 (.int .i64 c) (.int .i64 d) (.bool f3) (.bool f4)) n4 (.int .i64 a) (.int .i64 b) (.bool f1) (.bool f2)))).2.1, (cells4 (cells_drew (cells_far4 (cells_far4 (unhide K).f n3 (.int .i64 c) (.int .i64 d) (.bool f3) (.bool f4)) n4 (.int .i64 a) (.int .i64 b) (.bool f1) (.bool f2)))).2.2.1, (cells4 (cells_drew (cells_far4 (cells_far4 (unhide K).f n3 (.int .i64 c) (.int .i64 d) (.bool f3) (.bool f4)) n4 (.int .i64 a) (.int .i64 b) (.bool f1) (.bool f2)))).2.2.2, (cells4 (cells_drew (cells_far4 (cells_far4 (unhide K).t n7 (.int .i64 c) (.int .i64 d) (.bool f3) (.bool f4)) n8 (.int .i64 a) (.int .i64 b) (.bool f1) (.bool f2)))).1, (cells4 (cells_drew (cells_far4 (cells_far4 (unhide K).t n7 (.int .i64 c) (.int .i64 d) (.bool f3) (.bool f4)) n8 (.int .i64 a) (.int .i64 b) (.bool f1) (.bool f2)))).2.1, (cells4 (cells_drew (cells_far4 (cells_far4 (unhide K).t n7 (.int .i64 c) (.int .i64 d) (.bool f3) (.bool f4)) n8 (.int .i64 a) (.int .i64 b) (.bool f1) (.bool f2)))).2.2.1, (cells4 (cells_drew (cells_far4 (cells_far4 (unhide K).t n7 (.int .i64 c) (.int .i64 d) (.bool f3) (.bool f4)) n8 (.int .i64 a) (.int .i64 b) (.bool f1) (.bool f2)))).2.2.2⟩
        go_region_held3 (fun w' => w'.cell? ⟨F, 0, none⟩ = some (.int .i64 c) ∧ w'.cell? ⟨F, 1, none⟩ = some (.int .i64 d) ∧ w'.cell? ⟨F, 2, none⟩ = some (.bool f3) ∧ w'.cell? ⟨F, 3, none⟩ = some (.bool f4) ∧ w'.cell? ⟨T, 0, none⟩ = some (.int .i64 a) ∧ w'.cell? ⟨T, 1, none⟩ = some (.int .i64 b) ∧ w'.cell? ⟨T, 2, none⟩ = some (.bool f1) ∧ w'.cell? ⟨T, 3, none⟩ = some (.bool f2)) (first | with_reducible exact unhide S0 | with_reducible exact unhide S1 | with_reducible exact unhide S2) (fail)
        go_wp2
        refine bodyPost_ret (results_c2 rfl _ _ _ _ _ _ _ _ _ _ rfl (cells_drew (cells_far4 (cells_set4 (unhide K).r0 _ _ _ _) (by omega) _ _ _ _)) Tryz.underlying50 rfl (by exact infoR) rfl (cells_drew (cells_set4 (cells_far4 (unhide K).r1 (by omega) _ _ _ _) _ _ _ _)) Tryz.underlying50 rfl (by exact infoR)) rfl ?_
        exact ⟨by rw [← (unhide HR).1, ← (unhide HR).2]; unfold cornA cornB Rf.cells; simp only [if_pos (unhide HE).1, if_pos (unhide HE).2] <;> rfl, (below_set4 (below_set4 (unhide K).hb (by omega) _ _ _ _) (by omega) _ _ _ _).drew⟩
      · replace hd : b ≤ d := by omega
        have HE := hide (And.intro hc hd)
        obtain ⟨p_0, p_1, p_2, p_3⟩ := cells4 (unhide K).p
        obtain ⟨q_0, q_1, q_2, q_3⟩ := cells4 (unhide K).q
        go_upto_region 3 with fail
        clear p_0 p_1 p_2 p_3 q_0 q_1 q_2 q_3
        obtain ⟨p_0, p_1, p_2, p_3⟩ := cells4 (unhide K).p
        obtain ⟨q_0, q_1, q_2, q_3⟩ := cells4 (unhide K).q
        have hf := cells_f (unhide K).f 0
        have ht := cells_f (unhide K).t 0
        obtain ⟨a_0, a_1, a_2, a_3⟩ := cells4 (unhide K).f
        obtain ⟨b_0, b_1, b_2, b_3⟩ := cells4 (unhide K).t
        have S0 := hide (And.intro (cells4 (cells_drew (unhide K).p)).1 (cells4 (cells_drew (unhide K).q)).1)
        have S1 := hide (And.intro (cells4 (cells_drew (cells_set_far (unhide K).p (Ne.symm n1) 0 (.int .i64 c)))).1 (cells4 (cells_drew (cells_set_far (unhide K).q (Ne.symm n2) 0 (.int .i64 c)))).1)
        have S2 := hide (And.intro (cells4 (cells_drew (cells_set_far (cells_set_far (unhide K).p (Ne.symm n1) 0 (.int .i64 c)) (Ne.symm n5) 0 (.int .i64 a)))).1 (cells4 (cells_drew (cells_set_far (cells_set_far (unhide K).q (Ne.symm n2) 0 (.int .i64 c)) (Ne.symm n6) 0 (.int .i64 a)))).1)
        go_region_held3 (fun w' => w'.cell? ⟨w.heap.size, 0, none⟩ = some (.int .i64 a) ∧ w'.cell? ⟨w.heap.size + 1, 0, none⟩ = some (.int .i64 c)) (first | with_reducible exact unhide S0 | with_reducible exact unhide S1 | with_reducible exact unhide S2) (fail)
        clear p_0 p_1 p_2 p_3 q_0 q_1 q_2 q_3 hf ht a_0 a_1 a_2 a_3 b_0 b_1 b_2 b_3 S0 S1 S2
        replace K := hide ((unhide K).set 0 (.int .i64 c) (.int .i64 a)).drew
        go_upto_region 4 with fail
        generalize hW : ((wc.setCell ⟨F, 0, none⟩ (.int .i64 c)).setCell ⟨T, 0, none⟩ (.int .i64 a)).drew = WW at K ⊢
        clear hW
        obtain ⟨p_0, p_1, p_2, p_3⟩ := cells4 (unhide K).p
        obtain ⟨q_0, q_1, q_2, q_3⟩ := cells4 (unhide K).q
        have hf := cells_f (unhide K).f 2
        have ht := cells_f (unhide K).t 2
        obtain ⟨a_0, a_1, a_2, a_3⟩ := cells4 (unhide K).f
        obtain ⟨b_0, b_1, b_2, b_3⟩ := cells4 (unhide K).t
        have S0 := hide (And.intro (cells4 (cells_drew (unhide K).p)).2.2.1 (cells4 (cells_drew (unhide K).q)).2.2.1)
        have S1 := hide (And.intro (cells4 (cells_drew (cells_set_far (unhide K).p (Ne.symm n1) 2 (.bool f3)))).2.2.1 (cells4 (cells_drew (cells_set_far (unhide K).q (Ne.symm n2) 2 (.bool f3)))).2.2.1)
        have S2 := hide (And.intro (cells4 (cells_drew (cells_set_far (cells_set_far (unhide K).p (Ne.symm n1) 2 (.bool f3)) (Ne.symm n5) 2 (.bool f1)))).2.2.1 (cells4 (cells_drew (cells_set_far (cells_set_far (unhide K).q (Ne.symm n2) 2 (.bool f3)) (Ne.symm n6) 2 (.bool f1)))).2.2.1)
        go_region_held3 (fun w' => w'.cell? ⟨w.heap.size, 2, none⟩ = some (.bool f1) ∧ w'.cell? ⟨w.heap.size + 1, 2, none⟩ = some (.bool f3)) (first | with_reducible exact unhide S0 | with_reducible exact unhide S1 | with_reducible exact unhide S2) (fail)
        clear p_0 p_1 p_2 p_3 q_0 q_1 q_2 q_3 hf ht a_0 a_1 a_2 a_3 b_0 b_1 b_2 b_3 S0 S1 S2
        replace K := hide ((unhide K).set 2 (.bool f3) (.bool f1)).drew
        go_upto_region 5 with fail
        generalize hW : ((WW.setCell ⟨F, 2, none⟩ (.bool f3)).setCell ⟨T, 2, none⟩ (.bool f1)).drew = WW at K ⊢
        clear hW
        obtain ⟨p_0, p_1, p_2, p_3⟩ := cells4 (unhide K).p
        obtain ⟨q_0, q_1, q_2, q_3⟩ := cells4 (unhide K).q
        go_upto_region 8 with fail
        clear p_0 p_1 p_2 p_3 q_0 q_1 q_2 q_3
        obtain ⟨f_0, f_1, f_2, f_3⟩ := cells4 (unhide K).f
        obtain ⟨t_0, t_1, t_2, t_3⟩ := cells4 (unhide K).t
        obtain ⟨x_0, x_1, x_2, x_3⟩ := cells4 (unhide K).r0
        obtain ⟨y_0, y_1, y_2, y_3⟩ := cells4 (unhide K).r1
        have hx0 := cells_f (unhide K).r0 0
        have hy0 := cells_f (unhide K).r1 0
        have hx1 := cells_f (unhide K).r0 1
        have hy1 := cells_f (unhide K).r1 1
        have hx2 := cells_f (unhide K).r0 2
        have hy2 := cells_f (unhide K).r1 2
        have hx3 := cells_f (unhide K).r0 3
        have hy3 := cells_f (unhide K).r1 3
        have S0 : Hid (WW.drew.cell? ⟨F, 0, none⟩ = some (.int .i64 c) ∧ WW.drew.cell? ⟨F, 1, none⟩ = some (.int .i64 b) ∧ WW.drew.cell? ⟨F, 2, none⟩ = some (.bool f3) ∧ WW.drew.cell? ⟨F, 3, none⟩ = some (.bool f2) ∧ WW.drew.cell? ⟨T, 0, none⟩ = some (.int .i64 a) ∧ WW.drew.cell? ⟨T, 1, none⟩ = some (.int .i64 d) ∧ WW.drew.cell? ⟨T, 2, none⟩ = some (.bool f1) ∧ WW.drew.cell? ⟨T, 3, none⟩ = some (.bool f4)) := hide ⟨(cells4 (cells_drew ((unhide K).f))).1, (cells4 (cells_drew ((unhide K).f))).2.1, (cells4 (cells_drew ((unhide K).f))).2.2.1, (cells4 (cells_drew ((unhide K).f))).2.2.2, (cells4 (cells_drew ((unhide K).t))).1, (cells4 (cells_drew ((unhide K).t))).2.1, (cells4 (cells_drew ((unhide K).t))).2.2.1, (cells4 (cells_drew ((unhide K).t))).2.2.2⟩
        have S1 : Hid (((((WW.setCell ⟨w.heap.size + 1 + 1, 0, none⟩ (.int .i64 c)).setCell ⟨w.heap.size + 1 + 1, 1, none⟩ (.int .i64 b)).setCell ⟨w.heap.size + 1 + 1, 2, none⟩ (.bool f3)).setCell ⟨w.heap.size + 1 + 1, 3, none⟩ (.bool f2)).drew.cell? ⟨F, 0, none⟩ = some (.int .i64 c) ∧ ((((WW.setCell ⟨w.heap.size + 1 + 1, 0, none⟩ (.int .i64 c)).setCell ⟨w.heap.size + 1 + 1, 1, none⟩ (.int .i64 b)).setCell ⟨w.heap.size + 1 + 1, 2, none⟩ (.bool f3)).setCell ⟨w.heap.size + 1 + 1, 3, none⟩ (.bool f2)).drew.cell? ⟨F, 1, none⟩ = some (.int .i64 b) ∧ ((((WW.setCell ⟨w.heap.size + 1 + 1, 0, none⟩ (.int .i64 c)).setCell ⟨w.heap.size + 1 + 1, 1, none⟩ (.int .i64 b)).setCell ⟨w.heap.size + 1 + 1, 2, none⟩ (.bool f3)).setCell ⟨w.heap.size + 1 + 1, 3, none⟩ (.bool f2)).drew.cell? ⟨F, 2, none⟩ = some (.bool f3) ∧ ((((WW.setCell ⟨w.heap.size + 1 + 1, 0, none⟩ (.int .i64 c)).setCell ⟨w.heap.size + 1 + 1, 1, none⟩ (.int .i64 b)).setCell ⟨w.heap.size + 1 + 1, 2, none⟩ (.bool f3)).setCell ⟨w.heap.size + 1 + 1, 3, none⟩ (.bool f2)).drew.cell? ⟨F, 3, none⟩ = some (.bool f2) ∧ ((((WW.setCell ⟨w.heap.size + 1 + 1, 0, none⟩ (.int .i64 c)).setCell ⟨w.heap.size + 1 + 1, 1, none⟩ (.int .i64 b)).setCell ⟨w.heap.size + 1 + 1, 2, none⟩ (.bool f3)).setCell ⟨w.heap.size + 1 + 1, 3, none⟩ (.bool f2)).drew.cell? ⟨T, 0, none⟩ = some (.int .i64 a) ∧ ((((WW.setCell ⟨w.heap.size + 1 + 1, 0, none⟩ (.int .i64 c)).setCell ⟨w.heap.size + 1 + 1, 1, none⟩ (.int .i64 b)).setCell ⟨w.heap.size + 1 + 1, 2, none⟩ (.bool f3)).setCell ⟨w.heap.size + 1 + 1, 3, none⟩ (.bool f2)).drew.cell? ⟨T, 1, none⟩ = some (.int .i64 d) ∧ ((((WW.setCell ⟨w.heap.size + 1 + 1, 0, none⟩ (.int .i64 c)).setCell ⟨w.heap.size + 1 + 1, 1, none⟩ (.int .i64 b)).setCell ⟨w.heap.size + 1 + 1, 2, none⟩ (.bool f3)).setCell ⟨w.heap.size + 1 + 1, 3, none⟩ (.bool f2)).drew.cell? ⟨T, 2, none⟩ = some (.bool f1) ∧ ((((WW.setCell ⟨w.heap.size + 1 + 1, 0, none⟩ (.int .i64 c)).setCell ⟨w.heap.size + 1 + 1, 1, none⟩ (.int .i64 b)).setCell ⟨w.heap.size + 1 + 1, 2, none⟩ (.bool f3)).setCell ⟨w.heap.size + 1 + 1, 3, none⟩ (.bool f2)).drew.cell? ⟨T, 3, none⟩ = some (.bool f4)) := hide ⟨(cells4 (cells_drew (cells_far4 (unhide K).f n3 (.int .i64 c) (.int .i64 b) (.bool f3) (.bool f2)))).1, (cells4 (cells_drew (cells_far4 (unhide K).f n3 (.int .i64 c) (.int .i64 b) (.bool f3) (.bool f2)))).2.1, (cells4 (cells_drew (cells_far4 (unhide K).f n3 (.int .i64 c) (.int .i64 b) (.bool f3) (.bool f2)))).2.2.1, (cells4 (cells_drew (cells_far4 (unhide K).f n3 (.int .i64 c) (.int .i64 b) (.bool f3) (.bool f2)))).2.2.2, (cells4 (cells_drew (cells_far4 (unhide K).t n7 (.int .i64 c) (.int .i64 b) (.bool f3) (.bool f2)))).1, (cells4 (cells_drew (cells_far4 (unhide K).t n7 (.int .i64 c) (.int .i64 b) (.bool f3) (.bool f2)))).2.1, (cells4 (cells_drew (cells_far4 (unhide K).t n7 (.int .i64 c) (.int .i64 b) (.bool f3) (.bool f2)))).2.2.1, (cells4 (cells_drew (cells_far4 (unhide K).t n7 (.int .i64 c) (.int .i64 b) (.bool f3) (.bool f2)))).2.2.2⟩
        have S2 : Hid (((((((((WW.setCell ⟨w.heap.size + 1 + 1, 0, none⟩ (.int .i64 c)).setCell ⟨w.heap.size + 1 + 1, 1, none⟩ (.int .i64 b)).setCell ⟨w.heap.size + 1 + 1, 2, none⟩ (.bool f3)).setCell ⟨w.heap.size + 1 + 1, 3, none⟩ (.bool f2)).setCell ⟨w.heap.size + 1 + 1 + 1, 0, none⟩ (.int .i64 a)).setCell ⟨w.heap.size + 1 + 1 + 1, 1, none⟩ (.int .i64 d)).setCell ⟨w.heap.size + 1 + 1 + 1, 2, none⟩ (.bool f1)).setCell ⟨w.heap.size + 1 + 1 + 1, 3, none⟩ (.bool f4)).drew.cell? ⟨F, 0, none⟩ = some (.int .i64 c) ∧ ((((((((WW.setCell ⟨w.heap.size + 1 + 1, 0, none⟩ (.int .i64 c)).setCell ⟨w.heap.size + 1 + 1, 1, none⟩ (.int .i64 b)).setCell ⟨w.heap.size + 1 + 1, 2, none⟩ (.bool f3)).setCell ⟨w.heap.size + 1 + 1, 3, none⟩ (.bool f2)).setCell ⟨w.heap.size + 1 + 1 + 1, 0, none⟩ (.int .i64 a)).setCell ⟨w.heap.size + 1 + 1 + 1, 1, none⟩ (.int .i64 d)).setCell ⟨w.heap.size + 1 + 1 + 1, 2, none⟩ (.bool f1)).setCell ⟨w.heap.size + 1 + 1 + 1, 3, none⟩ (.bool f4)).drew.cell? ⟨F, 1, none⟩ = some (.int .i64 b) ∧ ((((((((WW.setCell ⟨w.heap.size + 1 + 1, 0, none⟩ (.int .i64 c)).setCell ⟨w.heap.size + 1 + 1, 1, none⟩ (.int .i64 b)).setCell ⟨w.heap.size + 1 + 1, 2, none⟩ (.bool f3)).setCell ⟨w.heap.size + 1 + 1, 3, none⟩ (.bool f2)).setCell ⟨w.heap.size + 1 + 1 + 1, 0, none⟩ (.int .i64 a)).setCell ⟨w.heap.size + 1 + 1 + 1, 1, none⟩ (.int .i64 d)).setCell ⟨w.heap.size + 1 + 1 + 1, 2, none⟩ (.bool f1)).setCell ⟨w.heap.size + 1 + 1 + 1, 3, none⟩ (.bool f4)).drew.cell? ⟨F, 2, none⟩ = some (.bool f3) ∧ ((((((((WW.setCell ⟨w.heap.size + 1 + 1, 0, none⟩ (.int .i64 c)).setCell ⟨w.heap.size + 1 + 1, 1, none⟩ (.int .i64 b)).setCell ⟨w.heap.size + 1 + 1, 2, none⟩ (.bool f3)).setCell ⟨w.heap.size + 1 + 1, 3, none⟩ (.bool f2)).setCell ⟨w.heap.size + 1 + 1 + 1, 0, none⟩ (.int .i64 a)).setCell ⟨w.heap.size + 1 + 1 + 1, 1, none⟩ (.int .i64 d)).setCell ⟨w.heap.size + 1 + 1 + 1, 2, none⟩ (.bool f1)).setCell ⟨w.heap.size + 1 + 1 + 1, 3, none⟩ (.bool f4)).drew.cell? ⟨F, 3, none⟩ = some (.bool f2) ∧ ((((((((WW.setCell ⟨w.heap.size + 1 + 1, 0, none⟩ (.int .i64 c)).setCell ⟨w.heap.size + 1 + 1, 1, none⟩ (.int .i64 b)).setCell ⟨w.heap.size + 1 + 1, 2, none⟩ (.bool f3)).setCell ⟨w.heap.size + 1 + 1, 3, none⟩ (.bool f2)).setCell ⟨w.heap.size + 1 + 1 + 1, 0, none⟩ (.int .i64 a)).setCell ⟨w.heap.size + 1 + 1 + 1, 1, none⟩ (.int .i64 d)).setCell ⟨w.heap.size + 1 + 1 + 1, 2, none⟩ (.bool f1)).setCell ⟨w.heap.size + 1 + 1 + 1, 3, none⟩ (.bool f4)).drew.cell? ⟨T, 0, none⟩ = some (.int .i64 a) ∧ ((((((((WW.setCell ⟨w.heap.size + 1 + 1, 0, none⟩ (.int .i64 c)).setCell ⟨w.heap.size + 1 + 1, 1, none⟩ (.int .i64 b)).setCell ⟨w.heap.size + 1 + 1, 2, none⟩ (.bool f3)).setCell ⟨w.heap.size + 1 + 1, 3, none⟩ (.bool f2)).setCell ⟨w.heap.size + 1 + 1 + 1, 0, none⟩ (.int .i64 a)).setCell ⟨w.heap.size + 1 + 1 + 1, 1, none⟩ (.int .i64 d)).setCell ⟨w.heap.size + 1 + 1 + 1, 2, none⟩ (.bool f1)).setCell ⟨w.heap.size + 1 + 1 + 1, 3, none⟩ (.bool f4)).drew.cell? ⟨T, 1, none⟩ = some (.int .i64 d) ∧ ((((((((WW.setCell ⟨w.heap.size + 1 + 1, 0, none⟩ (.int .i64 c)).setCell ⟨w.heap.size + 1 + 1, 1, none⟩ (.int .i64 b)).setCell ⟨w.heap.size + 1 + 1, 2, none⟩ (.bool f3)).setCell ⟨w.heap.size + 1 + 1, 3, none⟩ (.bool f2)).setCell ⟨w.heap.size + 1 + 1 + 1, 0, none⟩ (.int .i64 a)).setCell ⟨w.heap.size + 1 + 1 + 1, 1, none⟩ (.int .i64 d)).setCell ⟨w.heap.size + 1 + 1 + 1, 2, none⟩ (.bool f1)).setCell ⟨w.heap.size + 1 + 1 + 1, 3, none⟩ (.bool f4)).drew.cell? ⟨T, 2, none⟩ = some (.bool f1) ∧ ((((((((WW.setCell ⟨w.heap.size + 1 + 1, 0, none⟩ (.int .i64 c)).setCell ⟨w.heap.size + 1 + 1, 1, none⟩ (.int .i64 b)).setCell ⟨w.heap.size + 1 + 1, 2, none⟩ (.bool f3)).setCell ⟨w.heap.size + 1 + 1, 3, none⟩ (.bool f2)).setCell ⟨w.heap.size + 1 + 1 + 1, 0, none⟩ (.int .i64 a)).setCell ⟨w.heap.size + 1 + 1 + 1, 1, none⟩ (.int .i64 d)).setCell ⟨w.heap.size + 1 + 1 + 1, 2, none⟩ (.bool f1)).setCell ⟨w.heap.size + 1 + 1 + 1, 3, none⟩ (.bool f4)).drew.cell? ⟨T, 3, none⟩ = some (.bool f4)) := hide ⟨(cells4 (cells_drew (cells_far4 (cells_far4 (unhide K).f n3 (.int .i64 c) (.int .i64 b) (.bool f3) (.bool f2)) n4 (.int .i64 a) (.int .i64 d) (.bool f1) (.bool f4)))).1, (cells4 (cells_drew (cells_far4 (cells_far4 (unhide K).f n3 (.int .i64 c) (.int .i64 b) (.bool f3) (.bool f2)) n4 (.int .i64 a) (.int .i64 d) (.bool f1) (.bool f4)))).2.1, (cells4 (cells_drew (cells_far4 (cells_far4 (unhide K).f n3 (.int .i64 c) (.int .i64 b) (.bool f3) (.bool f2)) n4 (.int .i64 a) (.int .i64 d) (.bool f1) (.bool f4)))).2.2.1, (cells4 (cells_drew (cells_far4 (cells_far4 (unhide K).f n3 (.int .i64 c) (.int .i64 b) (.bool f3) (.bool f2)) n4 (.int .i64 a) (.int .i64 d) (.bool f1) (.bool f4)))).2.2.2, (cells4 (cells_drew (cells_far4 (cells_far4 (unhide K).t n7 (.int .i64 c) (.int .i64 b) (.bool f3) (.bool f2)) n8 (.int .i64 a) (.int .i64 d) (.bool f1) (.bool f4)))).1, (cells4 (cells_drew (cells_far4 (cells_far4 (unhide K).t n7 (.int .i64 c) (.int .i64 b) (.bool f3) (.bool f2)) n8 (.int .i64 a) (.int .i64 d) (.bool f1) (.bool f4)))).2.1, (cells4 (cells_drew (cells_far4 (cells_far4 (unhide K).t n7 (.int .i64 c) (.int .i64 b) (.bool f3) (.bool f2)) n8 (.int .i64 a) (.int .i64 d) (.bool f1) (.bool f4)))).2.2.1, (cells4 (cells_drew (cells_far4 (cells_far4 (unhide K).t n7 (.int .i64 c) (.int .i64 b) (.bool f3) (.bool f2)) n8 (.int .i64 a) (.int .i64 d) (.bool f1) (.bool f4)))).2.2.2⟩
        go_region_held3 (fun w' => w'.cell? ⟨F, 0, none⟩ = some (.int .i64 c) ∧ w'.cell? ⟨F, 1, none⟩ = some (.int .i64 b) ∧ w'.cell? ⟨F, 2, none⟩ = some (.bool f3) ∧ w'.cell? ⟨F, 3, none⟩ = some (.bool f2) ∧ w'.cell? ⟨T, 0, none⟩ = some (.int .i64 a) ∧ w'.cell? ⟨T, 1, none⟩ = some (.int .i64 d) ∧ w'.cell? ⟨T, 2, none⟩ = some (.bool f1) ∧ w'.cell? ⟨T, 3, none⟩ = some (.bool f4)) (first | with_reducible exact unhide S0 | with_reducible exact unhide S1 | with_reducible exact unhide S2) (fail)
        go_wp2
        refine bodyPost_ret (results_c2 rfl _ _ _ _ _ _ _ _ _ _ rfl (cells_drew (cells_far4 (cells_set4 (unhide K).r0 _ _ _ _) (by omega) _ _ _ _)) Tryz.underlying50 rfl (by exact infoR) rfl (cells_drew (cells_set4 (cells_far4 (unhide K).r1 (by omega) _ _ _ _) _ _ _ _)) Tryz.underlying50 rfl (by exact infoR)) rfl ?_
        exact ⟨by rw [← (unhide HR).1, ← (unhide HR).2]; unfold cornA cornB Rf.cells; simp only [if_pos (unhide HE).1, if_neg (Int.not_lt.2 (unhide HE).2)] <;> rfl, (below_set4 (below_set4 (unhide K).hb (by omega) _ _ _ _) (by omega) _ _ _ _).drew⟩
    · by_cases hd : d < b
      · replace hc : a ≤ c := by omega
        have HE := hide (And.intro hc hd)
        obtain ⟨p_0, p_1, p_2, p_3⟩ := cells4 (unhide K).p
        obtain ⟨q_0, q_1, q_2, q_3⟩ := cells4 (unhide K).q
        go_upto_region 5 with fail
        clear p_0 p_1 p_2 p_3 q_0 q_1 q_2 q_3
        obtain ⟨p_0, p_1, p_2, p_3⟩ := cells4 (unhide K).p
        obtain ⟨q_0, q_1, q_2, q_3⟩ := cells4 (unhide K).q
        go_upto_region 6 with fail
        clear p_0 p_1 p_2 p_3 q_0 q_1 q_2 q_3
        obtain ⟨p_0, p_1, p_2, p_3⟩ := cells4 (unhide K).p
        obtain ⟨q_0, q_1, q_2, q_3⟩ := cells4 (unhide K).q
        have hf := cells_f (unhide K).f 1
        have ht := cells_f (unhide K).t 1
        obtain ⟨a_0, a_1, a_2, a_3⟩ := cells4 (unhide K).f
        obtain ⟨b_0, b_1, b_2, b_3⟩ := cells4 (unhide K).t
        have S0 := hide (And.intro (cells4 (cells_drew (unhide K).p)).2.1 (cells4 (cells_drew (unhide K).q)).2.1)
        have S1 := hide (And.intro (cells4 (cells_drew (cells_set_far (unhide K).p (Ne.symm n1) 1 (.int .i64 d)))).2.1 (cells4 (cells_drew (cells_set_far (unhide K).q (Ne.symm n2) 1 (.int .i64 d)))).2.1)
        have S2 := hide (And.intro (cells4 (cells_drew (cells_set_far (cells_set_far (unhide K).p (Ne.symm n1) 1 (.int .i64 d)) (Ne.symm n5) 1 (.int .i64 b)))).2.1 (cells4 (cells_drew (cells_set_far (cells_set_far (unhide K).q (Ne.symm n2) 1 (.int .i64 d)) (Ne.symm n6) 1 (.int .i64 b)))).2.1)
        go_region_held3 (fun w' => w'.cell? ⟨w.heap.size, 1, none⟩ = some (.int .i64 b) ∧ w'.cell? ⟨w.heap.size + 1, 1, none⟩ = some (.int .i64 d)) (first | with_reducible exact unhide S0 | with_reducible exact unhide S1 | with_reducible exact unhide S2) (fail)
        clear p_0 p_1 p_2 p_3 q_0 q_1 q_2 q_3 hf ht a_0 a_1 a_2 a_3 b_0 b_1 b_2 b_3 S0 S1 S2
        replace K := hide ((unhide K).set 1 (.int .i64 d) (.int .i64 b)).drew
        go_upto_region 7 with fail
        generalize hW : ((wc.setCell ⟨F, 1, none⟩ (.int .i64 d)).setCell ⟨T, 1, none⟩ (.int .i64 b)).drew = WW at K ⊢
        clear hW
        obtain ⟨p_0, p_1, p_2, p_3⟩ := cells4 (unhide K).p
        obtain ⟨q_0, q_1, q_2, q_3⟩ := cells4 (unhide K).q
        have hf := cells_f (unhide K).f 3
        have ht := cells_f (unhide K).t 3
        obtain ⟨a_0, a_1, a_2, a_3⟩ := cells4 (unhide K).f
        obtain ⟨b_0, b_1, b_2, b_3⟩ := cells4 (unhide K).t
        have S0 := hide (And.intro (cells4 (cells_drew (unhide K).p)).2.2.2 (cells4 (cells_drew (unhide K).q)).2.2.2)
        have S1 := hide (And.intro (cells4 (cells_drew (cells_set_far (unhide K).p (Ne.symm n1) 3 (.bool f4)))).2.2.2 (cells4 (cells_drew (cells_set_far (unhide K).q (Ne.symm n2) 3 (.bool f4)))).2.2.2)
        have S2 := hide (And.intro (cells4 (cells_drew (cells_set_far (cells_set_far (unhide K).p (Ne.symm n1) 3 (.bool f4)) (Ne.symm n5) 3 (.bool f2)))).2.2.2 (cells4 (cells_drew (cells_set_far (cells_set_far (unhide K).q (Ne.symm n2) 3 (.bool f4)) (Ne.symm n6) 3 (.bool f2)))).2.2.2)
        go_region_held3 (fun w' => w'.cell? ⟨w.heap.size, 3, none⟩ = some (.bool f2) ∧ w'.cell? ⟨w.heap.size + 1, 3, none⟩ = some (.bool f4)) (first | with_reducible exact unhide S0 | with_reducible exact unhide S1 | with_reducible exact unhide S2) (fail)
        clear p_0 p_1 p_2 p_3 q_0 q_1 q_2 q_3 hf ht a_0 a_1 a_2 a_3 b_0 b_1 b_2 b_3 S0 S1 S2
        replace K := hide ((unhide K).set 3 (.bool f4) (.bool f2)).drew
        go_upto_region 8 with fail
        generalize hW : ((WW.setCell ⟨F, 3, none⟩ (.bool f4)).setCell ⟨T, 3, none⟩ (.bool f2)).drew = WW at K ⊢
        clear hW
        obtain ⟨f_0, f_1, f_2, f_3⟩ := cells4 (unhide K).f
        obtain ⟨t_0, t_1, t_2, t_3⟩ := cells4 (unhide K).t
        obtain ⟨x_0, x_1, x_2, x_3⟩ := cells4 (unhide K).r0
        obtain ⟨y_0, y_1, y_2, y_3⟩ := cells4 (unhide K).r1
        have hx0 := cells_f (unhide K).r0 0
        have hy0 := cells_f (unhide K).r1 0
        have hx1 := cells_f (unhide K).r0 1
        have hy1 := cells_f (unhide K).r1 1
        have hx2 := cells_f (unhide K).r0 2
        have hy2 := cells_f (unhide K).r1 2
        have hx3 := cells_f (unhide K).r0 3
        have hy3 := cells_f (unhide K).r1 3
        have S0 : Hid (WW.drew.cell? ⟨F, 0, none⟩ = some (.int .i64 a) ∧ WW.drew.cell? ⟨F, 1, none⟩ = some (.int .i64 d) ∧ WW.drew.cell? ⟨F, 2, none⟩ = some (.bool f1) ∧ WW.drew.cell? ⟨F, 3, none⟩ = some (.bool f4) ∧ WW.drew.cell? ⟨T, 0, none⟩ = some (.int .i64 c) ∧ WW.drew.cell? ⟨T, 1, none⟩ = some (.int .i64 b) ∧ WW.drew.cell? ⟨T, 2, none⟩ = some (.bool f3) ∧ WW.drew.cell? ⟨T, 3, none⟩ = some (.bool f2)) := hide ⟨(cells4 (cells_drew ((unhide K).f))).1, (cells4 (cells_drew ((unhide K).f))).2.1, (cells4 (cells_drew ((unhide K).f))).2.2.1, (cells4 (cells_drew ((unhide K).f))).2.2.2, (cells4 (cells_drew ((unhide K).t))).1, (cells4 (cells_drew ((unhide K).t))).2.1, (cells4 (cells_drew ((unhide K).t))).2.2.1, (cells4 (cells_drew ((unhide K).t))).2.2.2⟩
        have S1 : Hid (((((WW.setCell ⟨w.heap.size + 1 + 1, 0, none⟩ (.int .i64 a)).setCell ⟨w.heap.size + 1 + 1, 1, none⟩ (.int .i64 d)).setCell ⟨w.heap.size + 1 + 1, 2, none⟩ (.bool f1)).setCell ⟨w.heap.size + 1 + 1, 3, none⟩ (.bool f4)).drew.cell? ⟨F, 0, none⟩ = some (.int .i64 a) ∧ ((((WW.setCell ⟨w.heap.size + 1 + 1, 0, none⟩ (.int .i64 a)).setCell ⟨w.heap.size + 1 + 1, 1, none⟩ (.int .i64 d)).setCell ⟨w.heap.size + 1 + 1, 2, none⟩ (.bool f1)).setCell ⟨w.heap.size + 1 + 1, 3, none⟩ (.bool f4)).drew.cell? ⟨F, 1, none⟩ = some (.int .i64 d) ∧ ((((WW.setCell ⟨w.heap.size + 1 + 1, 0, none⟩ (.int .i64 a)).setCell ⟨w.heap.size + 1 + 1, 1, none⟩ (.int .i64 d)).setCell ⟨w.heap.size + 1 + 1, 2, none⟩ (.bool f1)).setCell ⟨w.heap.size + 1 + 1, 3, none⟩ (.bool f4)).drew.cell? ⟨F, 2, none⟩ = some (.bool f1) ∧ ((((WW.setCell ⟨w.heap.size + 1 + 1, 0, none⟩ (.int .i64 a)).setCell ⟨w.heap.size + 1 + 1, 1, none⟩ (.int .i64 d)).setCell ⟨w.heap.size + 1 + 1, 2, none⟩ (.bool f1)).setCell ⟨w.heap.size + 1 + 1, 3, none⟩ (.bool f4)).drew.cell? ⟨F, 3, none⟩ = some (.bool f4) ∧ ((((WW.setCell ⟨w.heap.size + 1 + 1, 0, none⟩ (.int .i64 a)).setCell ⟨w.heap.size + 1 + 1, 1, none⟩ (.int .i64 d)).setCell ⟨w.heap.size + 1 + 1, 2, none⟩ (.bool f1)).setCell ⟨w.heap.size + 1 + 1, 3, none⟩ (.bool f4)).drew.cell? ⟨T, 0, none⟩ = some (.int .i64 c) ∧ ((((WW.setCell ⟨w.heap.size + 1 + 1, 0, none⟩ (.int .i64 a)).setCell ⟨w.heap.size + 1 + 1, 1, none⟩ (.int .i64 d)).setCell ⟨w.heap.size + 1 + 1, 2, none⟩ (.bool f1)).setCell ⟨w.heap.size + 1 + 1, 3, none⟩ (.bool f4)).drew.cell? ⟨T, 1, none⟩ = some (.int .i64 b) ∧ ((((WW.setCell ⟨w.heap.size + 1 + 1, 0, none⟩ (.int .i64 a)).setCell ⟨w.heap.size + 1 + 1, 1, none⟩ (.int .i64 d)).setCell ⟨w.heap.size + 1 + 1, 2, none⟩ (.bool f1)).setCell ⟨w.heap.size + 1 + 1, 3, none⟩ (.bool f4)).drew.cell? ⟨T, 2, none⟩ = some (.bool f3) ∧ ((((WW.setCell ⟨w.heap.size + 1 + 1, 0, none⟩ (.int .i64 a)).setCell ⟨w.heap.size + 1 + 1, 1, none⟩ (.int .i64 d)).setCell ⟨w.heap.size + 1 + 1, 2, none⟩ (.bool f1)).setCell ⟨w.heap.size + 1 + 1, 3, none⟩ (.bool f4)).drew.cell? ⟨T, 3, none⟩ = some (.bool f2)) := hide ⟨(cells4 (cells_drew (cells_far4 (unhide K).f n3 (.int .i64 a) (.int .i64 d) (.bool f1) (.bool f4)))).1, (cells4 (cells_drew (cells_far4 (unhide K).f n3 (.int .i64 a) (.int .i64 d) (.bool f1) (.bool f4)))).2.1, (cells4 (cells_drew (cells_far4 (unhide K).f n3 (.int .i64 a) (.int .i64 d) (.bool f1) (.bool f4)))).2.2.1, (cells4 (cells_drew (cells_far4 (unhide K).f n3 (.int .i64 a) (.int .i64 d) (.bool f1) (.bool f4)))).2.2.2, (cells4 (cells_drew (cells_far4 (unhide K).t n7 (.int .i64 a) (.int .i64 d) (.bool f1) (.bool f4)))).1, (cells4 (cells_drew (cells_far4 (unhide K).t n7 (.int .i64 a) (.int .i64 d) (.bool f1) (.bool f4)))).2.1, (cells4 (cells_drew (cells_far4 (unhide K).t n7 (.int .i64 a) (.int .i64 d) (.bool f1) (.bool f4)))).2.2.1, (cells4 (cells_drew (cells_far4 (unhide K).t n7 (.int .i64 a) (.int .i64 d) (.bool f1) (.bool f4)))).2.2.2⟩
        have S2 : Hid (((((((((WW.setCell ⟨w.heap.size + 1 + 1, 0, none⟩ (.int .i64 a)).setCell ⟨w.heap.size + 1 + 1, 1, none⟩ (.int .i64 d)).setCell ⟨w.heap.size + 1 + 1, 2, none⟩ (.bool f1)).setCell ⟨w.heap.size + 1 + 1, 3, none⟩ (.bool f4)).setCell ⟨w.heap.size + 1 + 1 + 1, 0, none⟩ (.int .i64 c)).setCell ⟨w.heap.size + 1 + 1 + 1, 1, none⟩ (.int .i64 b)).setCell ⟨w.heap.size + 1 + 1 + 1, 2, none⟩ (.bool f3)).setCell ⟨w.heap.size + 1 + 1 + 1, 3, none⟩ (.bool f2)).drew.cell? ⟨F, 0, none⟩ = some (.int .i64 a) ∧ ((((((((WW.setCell ⟨w.heap.size + 1 + 1, 0, none⟩ (.int .i64 a)).setCell ⟨w.heap.size + 1 + 1, 1, none⟩ (.int .i64 d)).setCell ⟨w.heap.size + 1 + 1, 2, none⟩ (.bool f1)).setCell ⟨w.heap.size + 1 + 1, 3, none⟩ (.bool f4)).setCell ⟨w.heap.size + 1 + 1 + 1, 0, none⟩ (.int .i64 c)).setCell ⟨w.heap.size + 1 + 1 + 1, 1, none⟩ (.int .i64 b)).setCell ⟨w.heap.size + 1 + 1 + 1, 2, none⟩ (.bool f3)).setCell ⟨w.heap.size + 1 + 1 + 1, 3, none⟩ (.bool f2)).drew.cell? ⟨F, 1, none⟩ = some (.int .i64 d) ∧ ((((((((WW.setCell ⟨w.heap.size + 1 + 1, 0, none⟩ (.int .i64 a)).setCell ⟨w.heap.size + 1 + 1, 1, none⟩ (.int .i64 d)).setCell ⟨w.heap.size + 1 + 1, 2, none⟩ (.bool f1)).setCell ⟨w.heap.size + 1 + 1, 3, none⟩ (.bool f4)).setCell ⟨w.heap.size + 1 + 1 + 1, 0, none⟩ (.int .i64 c)).setCell ⟨w.heap.size + 1 + 1 + 1, 1, none⟩ (.int .i64 b)).setCell ⟨w.heap.size + 1 + 1 + 1, 2, none⟩ (.bool f3)).setCell ⟨w.heap.size + 1 + 1 + 1, 3, none⟩ (.bool f2)).drew.cell? ⟨F, 2, none⟩ = some (.bool f1) ∧ ((((((((WW.setCell ⟨w.heap.size + 1 + 1, 0, none⟩ (.int .i64 a)).setCell ⟨w.heap.size + 1 + 1, 1, none⟩ (.int .i64 d)).setCell ⟨w.heap.size + 1 + 1, 2, none⟩ (.bool f1)).setCell ⟨w.heap.size + 1 + 1, 3, none⟩ (.bool f4)).setCell ⟨w.heap.size + 1 + 1 + 1, 0, none⟩ (.int .i64 c)).setCell ⟨w.heap.size + 1 + 1 + 1, 1, none⟩ (.int .i64 b)).setCell ⟨w.heap.size + 1 + 1 + 1, 2, none⟩ (.bool f3)).setCell ⟨w.heap.size + 1 + 1 + 1, 3, none⟩ (.bool f2)).drew.cell? ⟨F, 3, none⟩ = some (.bool f4) ∧ ((((((((WW.setCell ⟨w.heap.size + 1 + 1, 0, none⟩ (.int .i64 a)).setCell ⟨w.heap.size + 1 + 1, 1, none⟩ (.int .i64 d)).setCell ⟨w.heap.size + 1 + 1, 2, none⟩ (.bool f1)).setCell ⟨w.heap.size + 1 + 1, 3, none⟩ (.bool f4)).setCell ⟨w.heap.size + 1 + 1 + 1, 0, none⟩ (.int .i64 c)).setCell ⟨w.heap.size + 1 + 1 + 1, 1, none⟩ (.int .i64 b)).setCell ⟨w.heap.size + 1 + 1 + 1, 2, none⟩ (.bool f3)).setCell ⟨w.heap.size + 1 + 1 + 1, 3, none⟩ (.bool f2)).drew.cell? ⟨T, 0, none⟩ = some (.int .i64 c) ∧ ((((((((WW.setCell ⟨w.heap.size + 1 + 1, 0, none⟩ (.int .i64 a)).setCell ⟨w.heap.size + 1 + 1, 1, none⟩ (.int .i64 d)).setCell ⟨w.heap.size + 1 + 1, 2, none⟩ (.bool f1)).setCell ⟨w.heap.size + 1 + 1, 3, none⟩ (.bool f4)).setCell ⟨w.heap.size + 1 + 1 + 1, 0, none⟩ (.int .i64 c)).setCell ⟨w.heap.size + 1 + 1 + 1, 1, none⟩ (.int .i64 b)).setCell ⟨w.heap.size + 1 + 1 + 1, 2, none⟩ (.bool f3)).setCell ⟨w.heap.size + 1 + 1 + 1, 3, none⟩ (.bool f2)).drew.cell? ⟨T, 1, none⟩ = some (.int .i64 b) ∧ ((((((((WW.setCell ⟨w.heap.size + 1 + 1, 0, none⟩ (.int .i64 a)).setCell ⟨w.heap.size + 1 + 1, 1, none⟩ (.int .i64 d)).setCell ⟨w.heap.size + 1 + 1, 2, none⟩ (.bool f1)).setCell ⟨w.heap.size + 1 + 1, 3, none⟩ (.bool f4)).setCell ⟨w.heap.size + 1 + 1 + 1, 0, none⟩ (.int .i64 c)).setCell ⟨w.heap.size + 1 + 1 + 1, 1, none⟩ (.int .i64 b)).setCell ⟨w.heap.size + 1 + 1 + 1, 2, none⟩ (.bool f3)).setCell ⟨w.heap.size + 1 + 1 + 1, 3, none⟩ (.bool f2)).drew.cell? ⟨T, 2, none⟩ = some (.bool f3) ∧ ((((((((WW.setCell ⟨w.heap.size + 1 + 1, 0, none⟩ (.int .i64 a)).setCell ⟨w.heap.size + 1 + 1, 1, none⟩ (.int .i64 d)).setCell ⟨w.heap.size + 1 + 1, 2, none⟩ (.bool f1)).setCell ⟨w.heap.size + 1 + 1, 3, none⟩ (.bool f4)).setCell ⟨w.heap.size + 1 + 1 + 1, 0, none⟩ (.int .i64 c)).setCell ⟨w.heap.size + 1 + 1 + 1, 1, none⟩ (.int .i64 b)).setCell ⟨w.heap.size + 1 + 1 + 1, 2, none⟩ (.bool f3)).setCell ⟨w.heap.size + 1 + 1 + 1, 3, none⟩ (.bool f2)).drew.cell? ⟨T, 3, none⟩ = some (.bool f2)) := hide ⟨(cells4 (cells_drew (cells_far4 (cells_far4 (unhide K).f n3 (.int .i64 a) (.int .i64 d) (.bool f1) (.bool f4)) n4 (.int .i64 c) (.int .i64 b) (.bool f3) (.bool f2)))).1, (cells4 (cells_drew (cells_far4 (cells_far4 (unhide K).f n3 (.int .i64 a) (.int .i64 d) (.bool f1) (.bool f4)) n4 (.int .i64 c) (.int .i64 b) (.bool f3) (.bool f2)))).2.1, (cells4 (cells_drew (cells_far4 (cells_far4 (unhide K).f n3 (.int .i64 a) (.int .i64 d) (.bool f1) (.bool f4)) n4 (.int .i64 c) (.int .i64 b) (.bool f3) (.bool f2)))).2.2.1, (cells4 (cells_drew (cells_far4 (cells_far4 (unhide K).f n3 (.int .i64 a) (.int .i64 d) (.bool f1) (.bool f4)) n4 (.int .i64 c) (.int .i64 b) (.bool f3) (.bool f2)))).2.2.2, (cells4 (cells_drew (cells_far4 (cells_far4 (unhide K).t n7 (.int .i64 a) (.int .i64 d) (.bool f1) (.bool f4)) n8 (.int .i64 c) (.int .i64 b) (.bool f3) (.bool f2)))).1, (cells4 (cells_drew (cells_far4 (cells_far4 (unhide K).t n7 (.int .i64 a) (.int .i64 d) (.bool f1) (.bool f4)) n8 (.int .i64 c) (.int .i64 b) (.bool f3) (.bool f2)))).2.1, (cells4 (cells_drew (cells_far4 (cells_far4 (unhide K).t n7 (.int .i64 a) (.int .i64 d) (.bool f1) (.bool f4)) n8 (.int .i64 c) (.int .i64 b) (.bool f3) (.bool f2)))).2.2.1, (cells4 (cells_drew (cells_far4 (cells_far4 (unhide K).t n7 (.int .i64 a) (.int .i64 d) (.bool f1) (.bool f4)) n8 (.int .i64 c) (.int .i64 b) (.bool f3) (.bool f2)))).2.2.2⟩
        go_region_held3 (fun w' => w'.cell? ⟨F, 0, none⟩ = some (.int .i64 a) ∧ w'.cell? ⟨F, 1, none⟩ = some (.int .i64 d) ∧ w'.cell? ⟨F, 2, none⟩ = some (.bool f1) ∧ w'.cell? ⟨F, 3, none⟩ = some (.bool f4) ∧ w'.cell? ⟨T, 0, none⟩ = some (.int .i64 c) ∧ w'.cell? ⟨T, 1, none⟩ = some (.int .i64 b) ∧ w'.cell? ⟨T, 2, none⟩ = some (.bool f3) ∧ w'.cell? ⟨T, 3, none⟩ = some (.bool f2)) (first | with_reducible exact unhide S0 | with_reducible exact unhide S1 | with_reducible exact unhide S2) (fail)
        go_wp2
        refine bodyPost_ret (results_c2 rfl _ _ _ _ _ _ _ _ _ _ rfl (cells_drew (cells_far4 (cells_set4 (unhide K).r0 _ _ _ _) (by omega) _ _ _ _)) Tryz.underlying50 rfl (by exact infoR) rfl (cells_drew (cells_set4 (cells_far4 (unhide K).r1 (by omega) _ _ _ _) _ _ _ _)) Tryz.underlying50 rfl (by exact infoR)) rfl ?_
        exact ⟨by rw [← (unhide HR).1, ← (unhide HR).2]; unfold cornA cornB Rf.cells; simp only [if_neg (Int.not_lt.2 (unhide HE).1), if_pos (unhide HE).2] <;> rfl, (below_set4 (below_set4 (unhide K).hb (by omega) _ _ _ _) (by omega) _ _ _ _).drew⟩
      · replace hc : a ≤ c := by omega
        replace hd : b ≤ d := by omega
        have HE := hide (And.intro hc hd)
        obtain ⟨p_0, p_1, p_2, p_3⟩ := cells4 (unhide K).p
        obtain ⟨q_0, q_1, q_2, q_3⟩ := cells4 (unhide K).q
        go_upto_region 5 with fail
        clear p_0 p_1 p_2 p_3 q_0 q_1 q_2 q_3
        obtain ⟨p_0, p_1, p_2, p_3⟩ := cells4 (unhide K).p
        obtain ⟨q_0, q_1, q_2, q_3⟩ := cells4 (unhide K).q
        go_upto_region 8 with fail
        clear p_0 p_1 p_2 p_3 q_0 q_1 q_2 q_3
        obtain ⟨f_0, f_1, f_2, f_3⟩ := cells4 (unhide K).f
        obtain ⟨t_0, t_1, t_2, t_3⟩ := cells4 (unhide K).t
        obtain ⟨x_0, x_1, x_2, x_3⟩ := cells4 (unhide K).r0
        obtain ⟨y_0, y_1, y_2, y_3⟩ := cells4 (unhide K).r1
        have hx0 := cells_f (unhide K).r0 0
        have hy0 := cells_f (unhide K).r1 0
        have hx1 := cells_f (unhide K).r0 1
        have hy1 := cells_f (unhide K).r1 1
        have hx2 := cells_f (unhide K).r0 2
        have hy2 := cells_f (unhide K).r1 2
        have hx3 := cells_f (unhide K).r0 3
        have hy3 := cells_f (unhide K).r1 3
        have S0 : Hid (wc.drew.cell? ⟨F, 0, none⟩ = some (.int .i64 a) ∧ wc.drew.cell? ⟨F, 1, none⟩ = some (.int .i64 b) ∧ wc.drew.cell? ⟨F, 2, none⟩ = some (.bool f1) ∧ wc.drew.cell? ⟨F, 3, none⟩ = some (.bool f2) ∧ wc.drew.cell? ⟨T, 0, none⟩ = some (.int .i64 c) ∧ wc.drew.cell? ⟨T, 1, none⟩ = some (.int .i64 d) ∧ wc.drew.cell? ⟨T, 2, none⟩ = some (.bool f3) ∧ wc.drew.cell? ⟨T, 3, none⟩ = some (.bool f4)) := hide ⟨(cells4 (cells_drew ((unhide K).f))).1, (cells4 (cells_drew ((unhide K).f))).2.1, (cells4 (cells_drew ((unhide K).f))).2.2.1, (cells4 (cells_drew ((unhide K).f))).2.2.2, (cells4 (cells_drew ((unhide K).t))).1, (cells4 (cells_drew ((unhide K).t))).2.1, (cells4 (cells_drew ((unhide K).t))).2.2.1, (cells4 (cells_drew ((unhide K).t))).2.2.2⟩
        have S1 : Hid (((((wc.setCell ⟨w.heap.size + 1 + 1, 0, none⟩ (.int .i64 a)).setCell ⟨w.heap.size + 1 + 1, 1, none⟩ (.int .i64 b)).setCell ⟨w.heap.size + 1 + 1, 2, none⟩ (.bool f1)).setCell ⟨w.heap.size + 1 + 1, 3, none⟩ (.bool f2)).drew.cell? ⟨F, 0, none⟩ = some (.int .i64 a) ∧ ((((wc.setCell ⟨w.heap.size + 1 + 1, 0, none⟩ (.int .i64 a)).setCell ⟨w.heap.size + 1 + 1, 1, none⟩ (.int .i64 b)).setCell ⟨w.heap.size + 1 + 1, 2, none⟩ (.bool f1)).setCell ⟨w.heap.size + 1 + 1, 3, none⟩ (.bool f2)).drew.cell? ⟨F, 1, none⟩ = some (.int .i64 b) ∧ ((((wc.setCell ⟨w.heap.size + 1 + 1, 0, none⟩ (.int .i64 a)).setCell ⟨w.heap.size + 1 + 1, 1, none⟩ (.int .i64 b)).setCell ⟨w.heap.size + 1 + 1, 2, none⟩ (.bool f1)).setCell ⟨w.heap.size + 1 + 1, 3, none⟩ (.bool f2)).drew.cell? ⟨F, 2, none⟩ = some (.bool f1) ∧ ((((wc.setCell ⟨w.heap.size + 1 + 1, 0, none⟩ (.int .i64 a)).setCell ⟨w.heap.size + 1 + 1, 1, none⟩ (.int .i64 b)).setCell ⟨w.heap.size + 1 + 1, 2, none⟩ (.bool f1)).setCell ⟨w.heap.size + 1 + 1, 3, none⟩ (.bool f2)).drew.cell? ⟨F, 3, none⟩ = some (.bool f2) ∧ ((((wc.setCell ⟨w.heap.size + 1 + 1, 0, none⟩ (.int .i64 a)).setCell ⟨w.heap.size + 1 + 1, 1, none⟩ (.int .i64 b)).setCell ⟨w.heap.size + 1 + 1, 2, none⟩ (.bool f1)).setCell ⟨w.heap.size + 1 + 1, 3, none⟩ (.bool f2)).drew.cell? ⟨T, 0, none⟩ = some (.int .i64 c) ∧ ((((wc.setCell ⟨w.heap.size + 1 + 1, 0, none⟩ (.int .i64 a)).setCell ⟨w.heap.size + 1 + 1, 1, none⟩ (.int .i64 b)).setCell ⟨w.heap.size + 1 + 1, 2, none⟩ (.bool f1)).setCell ⟨w.heap.size + 1 + 1, 3, none⟩ (.bool f2)).drew.cell? ⟨T, 1, none⟩ = some (.int .i64 d) ∧ ((((wc.setCell ⟨w.heap.size + 1 + 1, 0, none⟩ (.int .i64 a)).setCell ⟨w.heap.size + 1 + 1, 1, none⟩ (.int .i64 b)).setCell ⟨w.heap.size + 1 + 1, 2, none⟩ (.bool f1)).setCell ⟨w.heap.size + 1 + 1, 3, none⟩ (.bool f2)).drew.cell? ⟨T, 2, none⟩ = some (.bool f3) ∧ ((((wc.setCell ⟨w.heap.size + 1 + 1, 0, none⟩ (.int .i64 a)).setCell ⟨w.heap.size + 1 + 1, 1, none⟩ (.int .i64 b)).setCell ⟨w.heap.size + 1 + 1, 2, none⟩ (.bool f1)).setCell ⟨w.heap.size + 1 + 1, 3, none⟩ (.bool f2)).drew.cell? ⟨T, 3, none⟩ = some (.bool f4)) := hide ⟨(cells4 (cells_drew (cells_far4 (unhide K).f n3 (.int .i64 a) (.int .i64 b) (.bool f1) (.bool f2)))).1, (cells4 (cells_drew (cells_far4 (unhide K).f n3 (.int .i64 a) (.int .i64 b) (.bool f1) (.bool f2)))).2.1, (cells4 (cells_drew (cells_far4 (unhide K).f n3 (.int .i64 a) (.int .i64 b) (.bool f1) (.bool f2)))).2.2.1, (cells4 (cells_drew (cells_far4 (unhide K).f n3 (.int .i64 a) (.int .i64 b) (.bool f1) (.bool f2)))).2.2.2, (cells4 (cells_drew (cells_far4 (unhide K).t n7 (.int .i64 a) (.int .i64 b) (.bool f1) (.bool f2)))).1, (cells4 (cells_drew (cells_far4 (unhide K).t n7 (.int .i64 a) (.int .i64 b) (.bool f1) (.bool f2)))).2.1, (cells4 (cells_drew (cells_far4 (unhide K).t n7 (.int .i64 a) (.int .i64 b) (.bool f1) (.bool f2)))).2.2.1, (cells4 (cells_drew (cells_far4 (unhide K).t n7 (.int .i64 a) (.int .i64 b) (.bool f1) (.bool f2)))).2.2.2⟩
        have S2 : Hid (((((((((wc.setCell ⟨w.heap.size + 1 + 1, 0, none⟩ (.int .i64 a)).setCell ⟨w.heap.size + 1 + 1, 1, none⟩ (.int .i64 b)).setCell ⟨w.heap.size + 1 + 1, 2, none⟩ (.bool f1)).setCell ⟨w.heap.size + 1 + 1, 3, none⟩ (.bool f2)).setCell ⟨w.heap.size + 1 + 1 + 1, 0, none⟩ (.int .i64 c)).setCell ⟨w.heap.size + 1 + 1 + 1, 1, none⟩ (.int .i64 d)).setCell ⟨w.heap.size + 1 + 1 + 1, 2, none⟩ (.bool f3)).setCell ⟨w.heap.size + 1 + 1 + 1, 3, none⟩ (.bool f4)).drew.cell? ⟨F, 0, none⟩ = some (.int .i64 a) ∧ ((((((((wc.setCell ⟨w.heap.size + 1 + 1, 0, none⟩ (.int .i64 a)).setCell ⟨w.heap.size + 1 + 1, 1, none⟩ (.int .i64 b)).setCell ⟨w.heap.size + 1 + 1, 2, none⟩ (.bool f1)).setCell ⟨w.heap.size + 1 + 1, 3, none⟩ (.bool f2)).setCell ⟨w.heap.size + 1 + 1 + 1, 0, none⟩ (.int .i64 c)).setCell ⟨w.heap.size + 1 + 1 + 1, 1, none⟩ (.int .i64 d)).setCell ⟨w.heap.size + 1 + 1 + 1, 2, none⟩ (.bool f3)).setCell ⟨w.heap.size + 1 + 1 + 1, 3, none⟩ (.bool f4)).drew.cell? ⟨F, 1, none⟩ = some (.int .i64 b) ∧ ((((((((wc.setCell ⟨w.heap.size + 1 + 1, 0, none⟩ (.int .i64 a)).setCell ⟨w.heap.size + 1 + 1, 1, none⟩ (.int .i64 b)).setCell ⟨w.heap.size + 1 + 1, 2, none⟩ (.bool f1)).setCell ⟨w.heap.size + 1 + 1, 3, none⟩ (.bool f2)).setCell ⟨w.heap.size + 1 + 1 + 1, 0, none⟩ (.int .i64 c)).setCell ⟨w.heap.size + 1 + 1 + 1, 1, none⟩ (.int .i64 d)).setCell ⟨w.heap.size + 1 + 1 + 1, 2, none⟩ (.bool f3)).setCell ⟨w.heap.size + 1 + 1 + 1, 3, none⟩ (.bool f4)).drew.cell? ⟨F, 2, none⟩ = some (.bool f1) ∧ ((((((((wc.setCell ⟨w.heap.size + 1 + 1, 0, none⟩ (.int .i64 a)).setCell ⟨w.heap.size + 1 + 1, 1, none⟩ (.int .i64 b)).setCell ⟨w.heap.size + 1 + 1, 2, none⟩ (.bool f1)).setCell ⟨w.heap.size + 1 + 1, 3, none⟩ (.bool f2)).setCell ⟨w.heap.size + 1 + 1 + 1, 0, none⟩ (.int .i64 c)).setCell ⟨w.heap.size + 1 + 1 + 1, 1, none⟩ (.int .i64 d)).setCell ⟨w.heap.size + 1 + 1 + 1, 2, none⟩ (.bool f3)).setCell ⟨w.heap.size + 1 + 1 + 1, 3, none⟩ (.bool f4)).drew.cell? ⟨F, 3, none⟩ = some (.bool f2) ∧ ((((((((wc.setCell ⟨w.heap.size + 1 + 1, 0, none⟩ (.int .i64 a)).setCell ⟨w.heap.size + 1 + 1, 1, none⟩ (.int .i64 b)).setCell ⟨w.heap.size + 1 + 1, 2, none⟩ (.bool f1)).setCell ⟨w.heap.size + 1 + 1, 3, none⟩ (.bool f2)).setCell ⟨w.heap.size + 1 + 1 + 1, 0, none⟩ (.int .i64 c)).setCell ⟨w.heap.size + 1 + 1 + 1, 1, none⟩ (.int .i64 d)).setCell ⟨w.heap.size + 1 + 1 + 1, 2, none⟩ (.bool f3)).setCell ⟨w.heap.size + 1 + 1 + 1, 3, none⟩ (.bool f4)).drew.cell? ⟨T, 0, none⟩ = some (.int .i64 c) ∧ ((((((((wc.setCell ⟨w.heap.size + 1 + 1, 0, none⟩ (.int .i64 a)).setCell ⟨w.heap.size + 1 + 1, 1, none⟩ (.int .i64 b)).setCell ⟨w.heap.size + 1 + 1, 2, none⟩ (.bool f1)).setCell ⟨w.heap.size + 1 + 1, 3, none⟩ (.bool f2)).setCell ⟨w.heap.size + 1 + 1 + 1, 0, none⟩ (.int .i64 c)).setCell ⟨w.heap.size + 1 + 1 + 1, 1, none⟩ (.int .i64 d)).setCell ⟨w.heap.size + 1 + 1 + 1, 2, none⟩ (.bool f3)).setCell ⟨w.heap.size + 1 + 1 + 1, 3, none⟩ (.bool f4)).drew.cell? ⟨T, 1, none⟩ = some (.int .i64 d) ∧ ((((((((wc.setCell ⟨w.heap.size + 1 + 1, 0, none⟩ (.int .i64 a)).setCell ⟨w.heap.size + 1 + 1, 1, none⟩ (.int .i64 b)).setCell ⟨w.heap.size + 1 + 1, 2, none⟩ (.bool f1)).setCell ⟨w.heap.size + 1 + 1, 3, none⟩ (.bool f2)).setCell ⟨w.heap.size + 1 + 1 + 1, 0, none⟩ (.int .i64 c)).setCell ⟨w.heap.size + 1 + 1 + 1, 1, none⟩ (.int .i64 d)).setCell ⟨w.heap.size + 1 + 1 + 1, 2, none⟩ (.bool f3)).setCell ⟨w.heap.size + 1 + 1 + 1, 3, none⟩ (.bool f4)).drew.cell? ⟨T, 2, none⟩ = some (.bool f3) ∧ ((((((((wc.setCell ⟨w.heap.size + 1 + 1, 0, none⟩ (.int .i64 a)).setCell ⟨w.heap.size + 1 + 1, 1, none⟩ (.int .i64 b)).setCell ⟨w.heap.size + 1 + 1, 2, none⟩ (.bool f1)).setCell ⟨w.heap.size + 1 + 1, 3, none⟩ (.bool f2)).setCell ⟨w.heap.size + 1 + 1 + 1, 0, none⟩ (.int .i64 c)).setCell ⟨w.heap.size + 1 + 1 + 1, 1, none⟩ (.int .i64 d)).setCell ⟨w.heap.size + 1 + 1 + 1, 2, none⟩ (.bool f3)).setCell ⟨w.heap.size + 1 + 1 + 1, 3, none⟩ (.bool f4)).drew.cell? ⟨T, 3, none⟩ = some (.bool f4)) := hide ⟨(cells4 (cells_drew (cells_far4 (cells_far4 (unhide K).f n3 (.int .i64 a) (.int .i64 b) (.bool f1) (.bool f2)) n4 (.int .i64 c) (.int .i64 d) (.bool f3) (.bool f4)))).1, (cells4 (cells_drew (cells_far4 (cells_far4 (unhide K).f n3 (.int .i64 a) (.int .i64 b) (.bool f1) (.bool f2)) n4 (.int .i64 c) (.int .i64 d) (.bool f3) (.bool f4)))).2.1, (cells4 (cells_drew (cells_far4 (cells_far4 (unhide K).f n3 (.int .i64 a) (.int .i64 b) (.bool f1) (.bool f2)) n4 (.int .i64 c) (.int .i64 d) (.bool f3) (.bool f4)))).2.2.1, (cells4 (cells_drew (cells_far4 (cells_far4 (unhide K).f n3 (.int .i64 a) (.int .i64 b) (.bool f1) (.bool f2)) n4 (.int .i64 c) (.int .i64 d) (.bool f3) (.bool f4)))).2.2.2, (cells4 (cells_drew (cells_far4 (cells_far4 (unhide K).t n7 (.int .i64 a) (.int .i64 b) (.bool f1) (.bool f2)) n8 (.int .i64 c) (.int .i64 d) (.bool f3) (.bool f4)))).1, (cells4 (cells_drew (cells_far4 (cells_far4 (unhide K).t n7 (.int .i64 a) (.int .i64 b) (.bool f1) (.bool f2)) n8 (.int .i64 c) (.int .i64 d) (.bool f3) (.bool f4)))).2.1, (cells4 (cells_drew (cells_far4 (cells_far4 (unhide K).t n7 (.int .i64 a) (.int .i64 b) (.bool f1) (.bool f2)) n8 (.int .i64 c) (.int .i64 d) (.bool f3) (.bool f4)))).2.2.1, (cells4 (cells_drew (cells_far4 (cells_far4 (unhide K).t n7 (.int .i64 a) (.int .i64 b) (.bool f1) (.bool f2)) n8 (.int .i64 c) (.int .i64 d) (.bool f3) (.bool f4)))).2.2.2⟩
        go_region_held3 (fun w' => w'.cell? ⟨F, 0, none⟩ = some (.int .i64 a) ∧ w'.cell? ⟨F, 1, none⟩ = some (.int .i64 b) ∧ w'.cell? ⟨F, 2, none⟩ = some (.bool f1) ∧ w'.cell? ⟨F, 3, none⟩ = some (.bool f2) ∧ w'.cell? ⟨T, 0, none⟩ = some (.int .i64 c) ∧ w'.cell? ⟨T, 1, none⟩ = some (.int .i64 d) ∧ w'.cell? ⟨T, 2, none⟩ = some (.bool f3) ∧ w'.cell? ⟨T, 3, none⟩ = some (.bool f4)) (first | with_reducible exact unhide S0 | with_reducible exact unhide S1 | with_reducible exact unhide S2) (fail)
        go_wp2
        refine bodyPost_ret (results_c2 rfl _ _ _ _ _ _ _ _ _ _ rfl (cells_drew (cells_far4 (cells_set4 (unhide K).r0 _ _ _ _) (by omega) _ _ _ _)) Tryz.underlying50 rfl (by exact infoR) rfl (cells_drew (cells_set4 (cells_far4 (unhide K).r1 (by omega) _ _ _ _) _ _ _ _)) Tryz.underlying50 rfl (by exact infoR)) rfl ?_
        exact ⟨by rw [← (unhide HR).1, ← (unhide HR).2]; unfold cornA cornB Rf.cells; simp only [if_neg (Int.not_lt.2 (unhide HE).1), if_neg (Int.not_lt.2 (unhide HE).2)] <;> rfl, (below_set4 (below_set4 (unhide K).hb (by omega) _ _ _ _) (by omega) _ _ _ _).drew⟩
end Go.Proofs.YtloamahbghjjgaaGreatDoor

namespace Go.Proofs.YtloamahbghjjgaaGreatDoor
open Go.RowKit

theorem results_tmp4 {fn : Func} {t u v x : Tmp} (h : fn.results = #[.tmp t, .tmp u, .tmp v, .tmp x]) (tmps : Array Value) (P : Program) (w : World) :
    (results fn tmps).run P w = .ok (.tuple #[tmps.getD t undef, tmps.getD u undef, tmps.getD v undef, tmps.getD x undef]) w := by
  simp [results, h]
theorem cut91 (s : ByteArray) (l : List UInt8) (w : World) (hl : s.data.toList = l) :
    Calls Tryz.prog 177 #[.string s, .string ⟨#[91]⟩] w fun e w' => e = .returned (.tuple #[.string ⟨(if bkB l = true then l.tail else l).toArray⟩, .bool (bkB l)]) ∧ w' = w := by
  subst hl
  have h := Tryz.strings_CutPrefix s ⟨#[91]⟩ w
  have e1 : ∀ l : List UInt8, Lib.hasPrefix l [91] = bkB l := by
    intro l
    unfold Lib.hasPrefix bkB
    cases l with
    | nil => rfl
    | cons c l =>
      show ((91 == c) && true) = (some c == some 91)
      by_cases h : c = 91
      · subst h; rfl
      · rw [show ((91 : UInt8) == c) = false from beq_eq_false_iff_ne.2 (Ne.symm h), show (some c == some 91) = false from beq_eq_false_iff_ne.2 (by intro e; exact h (Option.some.inj e))]; rfl
  have e2 : ∀ l : List UInt8, Lib.trimPrefix l [91] = if bkB l = true then l.tail else l := by
    intro l
    unfold Lib.trimPrefix
    rw [e1]
    cases l <;> rfl
  rw [show (⟨#[91]⟩ : ByteArray).data.toList = [91] from rfl, e1, e2] at h
  exact h
theorem cutAt (s : ByteArray) (l : List UInt8) (c : UInt8) (w : World) (hl : s.data.toList = l) (hz : l.length < 4294967281) (he : Env4 w) :
    Calls Tryz.prog 178 #[.string s, .string ⟨#[c]⟩] w fun e w' => e = .returned (.tuple #[.string ⟨(Lib.cut l [c]).1.toArray⟩, .string ⟨(Lib.cut l [c]).2.1.toArray⟩, .bool (Lib.cut l [c]).2.2]) ∧ Below w.heap.size w w' := by
  subst hl
  obtain ⟨m, hm⟩ := he.len
  exact (Tryz.strings_Cut s ⟨#[c]⟩ m w hz hm).mono (fun e w' ⟨h1, n, h2⟩ => ⟨h1, by rw [h2]; exact below_drewN (Below.refl _ _) n⟩)
theorem cut_le (l : List UInt8) (c : UInt8) : (Lib.cut l [c]).1.length ≤ l.length ∧ (Lib.cut l [c]).2.1.length ≤ l.length := by
  unfold Lib.cut
  split
  · simp only [List.length_take, List.length_drop]; omega
  · exact ⟨Nat.le_refl _, Nat.zero_le _⟩
def PartPost (l : List UInt8) (w : World) (e : Ending) (w' : World) : Prop :=
  ∃ B S P : ByteArray, e = .returned (.tuple #[.string B, .string S, .string P, .bool (partOk l)]) ∧ (partOk l = true → B = ⟨(partB l).toArray⟩ ∧ S = ⟨(partS l).toArray⟩ ∧ P = ⟨(partP l).toArray⟩) ∧ Below w.heap.size w w'
theorem bkR_len (l : List UInt8) : (bkR l).length ≤ l.length := by
  unfold bkR
  split
  · have := (cut_le l.tail 93).2
    unfold bkC
    rw [List.length_tail] at this
    omega
  · exact Nat.le_refl _
theorem partP_len (l : List UInt8) : (partP l).length ≤ l.length := by
  have h := bkR_len l
  unfold partP
  split
  · have := (cut_le (bkR l) 33).2
    unfold shC
    omega
  · exact h

set_option maxRecDepth 100000 in
set_option maxHeartbeats 4000000 in
theorem parted_val (s : ByteArray) (w : World) (hs : s.size < 4294967281) (he : Env4 w) :
    Calls Tryz.prog 216 #[.string s] w fun e w' => PartPost s.data.toList w e w' := by
  obtain ⟨l, hl⟩ : ∃ l, s.data.toList = l := ⟨_, rfl⟩
  have hz : l.length < 4294967281 := by rw [← hl]; exact hs
  rw [hl]
  have HE := hide he
  clear he hs
  have HC := hide (fun w => cut91 s l w hl)
  have HS := hide (fun w he => cutAt ⟨(bkR l).toArray⟩ (bkR l) 33 w rfl (by have := bkR_len l; omega) he)
  have HN := hide (fun w => name_val ⟨(shC l).1.toArray⟩ w)
  have FS : Hid (partS l = if (shC l).2.2 = true then (shC l).1 else []) := hide rfl
  have FP : Hid (partP l = if (shC l).2.2 = true then (shC l).2.1 else bkR l) := hide rfl
  have FB : Hid (partB l = if bkB l = true then (bkC l).1 else []) := hide rfl
  have FO : Hid (partOk l = (bkOk l && shOk l)) := hide rfl
  have FO1 : Hid (bkOk l = (!(bkB l) || ((bkC l).2.2 && nameG (bkC l).1))) := hide rfl
  have FO2 : Hid (shOk l = if (shC l).2.2 = true then nameG (shC l).1 else !(bkB l)) := hide rfl
  have FR : Hid (bkR l = if bkB l = true then (bkC l).2.1 else l) := hide rfl
  change Hid (∀ w : World, Env4 w → Calls Tryz.prog 178 #[.string ⟨(bkR l).toArray⟩, .string ⟨#[33]⟩] w fun e w' => e = .returned (.tuple #[.string ⟨(shC l).1.toArray⟩, .string ⟨(shC l).2.1.toArray⟩, .bool (shC l).2.2]) ∧ Below w.heap.size w w') at HS
  change Hid (∀ w : World, Calls Tryz.prog 110 #[.string ⟨(shC l).1.toArray⟩] w fun e w' => e = .returned (.bool (nameG (shC l).1)) ∧ Below w.heap.size w w') at HN
  have HZ := hide hz
  clear hl hz
  generalize shC l = sc at HS HN FS FP FO2
  obtain ⟨S1, S2, S3⟩ := sc
  simp only [] at HS HN FS FP FO2
  generalize nameG S1 = nS at HN FO2
  cases hb : bkB l
  · rw [hb] at HC FB FO1 FO2 FR
    rw [if_neg (by simp)] at HC FB FR
    rw [unhide FR] at HS FP
    have HSE : Hid (⟨l.toArray⟩ = (⟨l.toArray⟩ : ByteArray)) := hide rfl
    clear FR hb
    cases S3
    · have HO : Hid (partOk l = true) := hide (by rw [unhide FO, unhide FO1, unhide FO2]; rfl)
      go_enter Tryz.func216, Tryz.ntmps216
      have HB := hide (Below.refl w.heap.size w)
      go_wp2_with fail
      refine (unhide HC _).mono ?_
      rintro e w0 ⟨rfl, rfl⟩
      go_wp2_with fail
      refine (unhide HS _ ((unhide HE).below (unhide HB))).mono ?_
      rintro e w1 ⟨rfl, b1⟩
      replace HB := hide (below_nx (unhide HB) b1)
      clear b1
      go_wp2
      refine bodyPost_ret (results_tmp4 rfl _ _ _) rfl ?_
      exact ⟨_, _, _, by rw [unhide HO]; rfl, (fun _ => ⟨by rw [unhide FB], by rw [unhide FS]; rfl, by rw [unhide FP]; rfl⟩), unhide HB⟩
    · cases nS
      · have HO : Hid (partOk l = false) := hide (by rw [unhide FO, unhide FO1, unhide FO2]; rfl)
        go_enter Tryz.func216, Tryz.ntmps216
        have HB := hide (Below.refl w.heap.size w)
        go_wp2_with fail
        refine (unhide HC _).mono ?_
        rintro e w0 ⟨rfl, rfl⟩
        go_wp2_with fail
        refine (unhide HS _ ((unhide HE).below (unhide HB))).mono ?_
        rintro e w1 ⟨rfl, b1⟩
        replace HB := hide (below_nx (unhide HB) b1)
        clear b1
        go_wp2_with fail
        refine (unhide HN _).mono ?_
        rintro e w2 ⟨rfl, b2⟩
        replace HB := hide (below_nx (unhide HB) b2)
        clear b2
        go_wp2
        refine bodyPost_ret (results_tmp4 rfl _ _ _) rfl ?_
        exact ⟨_, _, _, by rw [unhide HO]; rfl, (fun h => by rw [unhide HO] at h; cases h), unhide HB⟩
      · have HO : Hid (partOk l = true) := hide (by rw [unhide FO, unhide FO1, unhide FO2]; rfl)
        go_enter Tryz.func216, Tryz.ntmps216
        have HB := hide (Below.refl w.heap.size w)
        go_wp2_with fail
        refine (unhide HC _).mono ?_
        rintro e w0 ⟨rfl, rfl⟩
        go_wp2_with fail
        refine (unhide HS _ ((unhide HE).below (unhide HB))).mono ?_
        rintro e w1 ⟨rfl, b1⟩
        replace HB := hide (below_nx (unhide HB) b1)
        clear b1
        go_wp2_with fail
        refine (unhide HN _).mono ?_
        rintro e w2 ⟨rfl, b2⟩
        replace HB := hide (below_nx (unhide HB) b2)
        clear b2
        go_wp2
        refine bodyPost_ret (results_tmp4 rfl _ _ _) rfl ?_
        exact ⟨_, _, _, by rw [unhide HO]; rfl, (fun _ => ⟨by rw [unhide FB], by rw [unhide FS]; rfl, by rw [unhide FP]; rfl⟩), unhide HB⟩
  · have HC2 := hide (fun w he => cutAt ⟨l.tail.toArray⟩ l.tail 93 w rfl (by rw [List.length_tail]; have := unhide HZ; omega) he)
    have HN2 := hide (fun w => name_val ⟨(bkC l).1.toArray⟩ w)
    change Hid (∀ w : World, Env4 w → Calls Tryz.prog 178 #[.string ⟨l.tail.toArray⟩, .string ⟨#[93]⟩] w fun e w' => e = .returned (.tuple #[.string ⟨(bkC l).1.toArray⟩, .string ⟨(bkC l).2.1.toArray⟩, .bool (bkC l).2.2]) ∧ Below w.heap.size w w') at HC2
    change Hid (∀ w : World, Calls Tryz.prog 110 #[.string ⟨(bkC l).1.toArray⟩] w fun e w' => e = .returned (.bool (nameG (bkC l).1)) ∧ Below w.heap.size w w') at HN2
    rw [hb] at HC FB FO1 FO2 FR
    rw [if_pos rfl] at HC FB FR
    rw [unhide FR] at HS FP
    clear FR hb
    generalize bkC l = bc at HC2 HN2 FB FO1 HS FP
    obtain ⟨B1, B2, B3⟩ := bc
    simp only [] at HC2 HN2 FB FO1 HS FP
    generalize nameG B1 = nB at HN2 FO1
    cases B3
    · have HO : Hid (partOk l = false) := hide (by rw [unhide FO, unhide FO1]; rfl)
      go_enter Tryz.func216, Tryz.ntmps216
      have HB := hide (Below.refl w.heap.size w)
      go_wp2_with fail
      refine (unhide HC _).mono ?_
      rintro e w0 ⟨rfl, rfl⟩
      go_wp2_with fail
      refine (unhide HC2 _ ((unhide HE).below (unhide HB))).mono ?_
      rintro e w1 ⟨rfl, b1⟩
      replace HB := hide (below_nx (unhide HB) b1)
      clear b1
      go_wp2
      refine bodyPost_ret (results_tmp4 rfl _ _ _) rfl ?_
      exact ⟨_, _, _, by rw [unhide HO]; rfl, (fun h => by rw [unhide HO] at h; cases h), unhide HB⟩
    · cases nB
      · have HO : Hid (partOk l = false) := hide (by rw [unhide FO, unhide FO1]; rfl)
        go_enter Tryz.func216, Tryz.ntmps216
        have HB := hide (Below.refl w.heap.size w)
        go_wp2_with fail
        refine (unhide HC _).mono ?_
        rintro e w0 ⟨rfl, rfl⟩
        go_wp2_with fail
        refine (unhide HC2 _ ((unhide HE).below (unhide HB))).mono ?_
        rintro e w1 ⟨rfl, b1⟩
        replace HB := hide (below_nx (unhide HB) b1)
        clear b1
        go_wp2_with fail
        refine (unhide HN2 _).mono ?_
        rintro e w2 ⟨rfl, b2⟩
        replace HB := hide (below_nx (unhide HB) b2)
        clear b2
        go_wp2
        refine bodyPost_ret (results_tmp4 rfl _ _ _) rfl ?_
        exact ⟨_, _, _, by rw [unhide HO]; rfl, (fun h => by rw [unhide HO] at h; cases h), unhide HB⟩
      · cases S3
        · have HO : Hid (partOk l = false) := hide (by rw [unhide FO, unhide FO1, unhide FO2]; rfl)
          go_enter Tryz.func216, Tryz.ntmps216
          have HB := hide (Below.refl w.heap.size w)
          go_wp2_with fail
          refine (unhide HC _).mono ?_
          rintro e w0 ⟨rfl, rfl⟩
          go_wp2_with fail
          refine (unhide HC2 _ ((unhide HE).below (unhide HB))).mono ?_
          rintro e w1 ⟨rfl, b1⟩
          replace HB := hide (below_nx (unhide HB) b1)
          clear b1
          go_wp2_with fail
          refine (unhide HN2 _).mono ?_
          rintro e w2 ⟨rfl, b2⟩
          replace HB := hide (below_nx (unhide HB) b2)
          clear b2
          go_wp2_with fail
          refine (unhide HS _ ((unhide HE).below (unhide HB))).mono ?_
          rintro e w3 ⟨rfl, b3⟩
          replace HB := hide (below_nx (unhide HB) b3)
          clear b3
          go_wp2
          refine bodyPost_ret (results_tmp4 rfl _ _ _) rfl ?_
          exact ⟨_, _, _, by rw [unhide HO]; rfl, (fun h => by rw [unhide HO] at h; cases h), unhide HB⟩
        · cases nS
          · have HO : Hid (partOk l = false) := hide (by rw [unhide FO, unhide FO1, unhide FO2]; rfl)
            go_enter Tryz.func216, Tryz.ntmps216
            have HB := hide (Below.refl w.heap.size w)
            go_wp2_with fail
            refine (unhide HC _).mono ?_
            rintro e w0 ⟨rfl, rfl⟩
            go_wp2_with fail
            refine (unhide HC2 _ ((unhide HE).below (unhide HB))).mono ?_
            rintro e w1 ⟨rfl, b1⟩
            replace HB := hide (below_nx (unhide HB) b1)
            clear b1
            go_wp2_with fail
            refine (unhide HN2 _).mono ?_
            rintro e w2 ⟨rfl, b2⟩
            replace HB := hide (below_nx (unhide HB) b2)
            clear b2
            go_wp2_with fail
            refine (unhide HS _ ((unhide HE).below (unhide HB))).mono ?_
            rintro e w3 ⟨rfl, b3⟩
            replace HB := hide (below_nx (unhide HB) b3)
            clear b3
            go_wp2_with fail
            refine (unhide HN _).mono ?_
            rintro e w4 ⟨rfl, b4⟩
            replace HB := hide (below_nx (unhide HB) b4)
            clear b4
            go_wp2
            refine bodyPost_ret (results_tmp4 rfl _ _ _) rfl ?_
            exact ⟨_, _, _, by rw [unhide HO]; rfl, (fun h => by rw [unhide HO] at h; cases h), unhide HB⟩
          · have HO : Hid (partOk l = true) := hide (by rw [unhide FO, unhide FO1, unhide FO2]; rfl)
            go_enter Tryz.func216, Tryz.ntmps216
            have HB := hide (Below.refl w.heap.size w)
            go_wp2_with fail
            refine (unhide HC _).mono ?_
            rintro e w0 ⟨rfl, rfl⟩
            go_wp2_with fail
            refine (unhide HC2 _ ((unhide HE).below (unhide HB))).mono ?_
            rintro e w1 ⟨rfl, b1⟩
            replace HB := hide (below_nx (unhide HB) b1)
            clear b1
            go_wp2_with fail
            refine (unhide HN2 _).mono ?_
            rintro e w2 ⟨rfl, b2⟩
            replace HB := hide (below_nx (unhide HB) b2)
            clear b2
            go_wp2_with fail
            refine (unhide HS _ ((unhide HE).below (unhide HB))).mono ?_
            rintro e w3 ⟨rfl, b3⟩
            replace HB := hide (below_nx (unhide HB) b3)
            clear b3
            go_wp2_with fail
            refine (unhide HN _).mono ?_
            rintro e w4 ⟨rfl, b4⟩
            replace HB := hide (below_nx (unhide HB) b4)
            clear b4
            go_wp2
            refine bodyPost_ret (results_tmp4 rfl _ _ _) rfl ?_
            exact ⟨_, _, _, by rw [unhide HO]; rfl, (fun _ => ⟨by rw [unhide FB], by rw [unhide FS]; rfl, by rw [unhide FP]; rfl⟩), unhide HB⟩
end Go.Proofs.YtloamahbghjjgaaGreatDoor
