/- The walk of NumsRounds. -/
import Derived.BigQuiet
import Derived.BigRegion
import Derived.Deep.CutBlock
import Derived.Deep.CutRange
import Derived.Deep.DeepFit
import Derived.Deep.QuietTactic
import Derived.Deep.RegionHeld3
import Derived.Deep.RegionWith
import Derived.Deep.WholeRow
import Derived.Laws.Bits64b
import Derived.Laws.BitsAllLaws
import Derived.Laws.CopyOwn
import Derived.Laws.FloatArith
import Derived.Laws.IdiomStrings
import Derived.Laws.Rows
import Derived.Laws.StructEq
import Derived.Laws.Tables
import Derived.Lib.BitFns
import Derived.Lib.IndexBytes
import Derived.Lib.ItoaMem
import Derived.Lib.ItoaNum
import Derived.Lib.TrimByte
import Derived.Lib.Walk
import Derived.OwnWalk
import Derived.Shelf.Bits.Mul64
import Derived.Shelf.LaysM
import Derived.Shelf.Small.Bits
import Derived.Shelf.Small.Strs
import Derived.Shelf.Small.Wraps
import Derived.Shelf.Strconv.Itoa0
import Derived.Shelf.Strconv.Itoa1
import Derived.Shelf.Strconv.Itoa2
import Derived.Shelf.Strings.AsciiSet
import Derived.Shelf.Strings.Cut
import Derived.Shelf.Strings.Prefix
import Derived.Shelf.Strings.Search1
import Derived.Shelf.Strings.Search2
import Derived.Shelf.Strings.Shaped
import Derived.Shelf.Strings.Trim
import Derived.Test.YtbeijnflfmjgfaaGreatDoorProg
import Derived.Test.YtbeijnflfmjgfaaGreatDoorRows
import Derived.WalkKit
import Derived.WalkLawsBesides
import Derived.WalkSmall
import Derived.WalkSpells
import Ieee.Arith
import Derived.Test.YtbeijnflfmjgfaaGreatDoorZnAA
import Derived.Test.YtbeijnflfmjgfaaGreatDoorZnAB
import Derived.Test.YtbeijnflfmjgfaaGreatDoorZnAC
import Derived.Test.YtbeijnflfmjgfaaGreatDoorZnAD
import Derived.Test.YtbeijnflfmjgfaaGreatDoorZnAE
import Derived.Test.YtbeijnflfmjgfaaGreatDoorZnAF
import Derived.Test.YtbeijnflfmjgfaaGreatDoorZnAG
import Derived.Test.YtbeijnflfmjgfaaGreatDoorZnAH
import Derived.Test.YtbeijnflfmjgfaaGreatDoorZnAI
import Derived.Test.YtbeijnflfmjgfaaGreatDoorZnAJ
import Derived.Test.YtbeijnflfmjgfaaGreatDoorZnAK
import Derived.Test.YtbeijnflfmjgfaaGreatDoorZnAL
import Derived.Test.YtbeijnflfmjgfaaGreatDoorZnAM
import Derived.Test.YtbeijnflfmjgfaaGreatDoorZnAN
import Derived.Test.YtbeijnflfmjgfaaGreatDoorZnAV
namespace Go.Proofs.YtbeijnflfmjgfaaGreatDoor
open Go.RowKit

theorem num_law (V : Vl) (w : World) :
    Calls Tryz.prog 26 #[.agg V.cells] w fun e w' => e = .returned (.tuple #[.int .i64 V.num, .bool (V.kind == 1)]) ∧ Below w.heap.size w w' := by
  unfold Vl.cells
  go_enter Tryz.func26, Tryz.ntmps26
  go_wp2_with fail
  go_region
  all_goals (try go_wp2_with fail)
  all_goals go_ret2
  all_goals exact ⟨rfl, (below_al w _).drew⟩

theorem two_small (a b : Int) : ∀ x ∈ [(⟨1, a, noText, false, 0⟩ : Vl), ⟨1, b, noText, false, 0⟩], x.text.size ≤ 1000 := by
  intro x hx
  simp at hx
  rcases hx with rfl | rfl
  · show noText.size ≤ 1000; decide
  · show noText.size ≤ 1000; decide

set_option maxRecDepth 100000 in
set_option maxHeartbeats 16000000 in
theorem rounds_law (hp : PNums) (a p : Int) (w : World) (hp1 : 0 ≤ p) (hp2 : p ≤ 255) (he : Env3 w) :
    Calls Tryz.prog 7 #[.int .i64 a, .int .u8 p] w fun e w' => e = .returned (.bool true) ∧ Below w.heap.size w w' := by
  have HE := hide he
  clear he
  have HP := hide hp
  clear hp
  have HWK := hide (fun w he => wakes9 (unhide HP) w he)
  have hA : -1152921504606846976 < a.tmod 1152921504606846976 ∧ a.tmod 1152921504606846976 < 1152921504606846976 := by
    have h : (a.tmod 1152921504606846976).natAbs = a.natAbs % 1152921504606846976 := Int.natAbs_tmod a _
    omega
  have ht0 : 0 ≤ p.tmod 5 ∧ p.tmod 5 ≤ 4 := by rw [Int.tmod_eq_emod_of_nonneg hp1]; omega
  obtain ⟨A, eA⟩ : ∃ A, a.tmod 1152921504606846976 = A := ⟨_, rfl⟩
  obtain ⟨t, et⟩ : ∃ t, p.tmod 5 = t := ⟨_, rfl⟩
  rw [eA] at hA
  rw [et] at ht0
  obtain ⟨A1, A2⟩ := hA
  obtain ⟨t0, t4⟩ := ht0
  obtain ⟨U, R, c1, c2, c3, U1, U2, R1, R2, f1, f2, f3, f4, f5⟩ := rounds_calls A t t0 t4 A1 A2
  have gA : goodB A = true := by rw [goodB_iff]; omega
  have gt : goodB (t * 10000) = true := by rw [goodB_iff]; omega
  have HN1 := hide (fun w => n_val A w)
  have HN2 := hide (fun w => n_val (t * 10000) w)
  rw [good_n gA] at HN1
  rw [good_n gt] at HN2
  have HC1 := hide (fun va w (h : ValsAt w va [⟨1, A, noText, false, 0⟩, ⟨1, t * 10000, noText, false, 0⟩]) (he : Env3 w) => (unhide HP).call ⟨#[82, 79, 85, 78, 68, 85, 80]⟩ va [⟨1, A, noText, false, 0⟩, ⟨1, t * 10000, noText, false, 0⟩] w (by decide) (by simp) (two_small _ _) h he)
  have HC2 := hide (fun va w (h : ValsAt w va [⟨1, A, noText, false, 0⟩, ⟨1, t * 10000, noText, false, 0⟩]) (he : Env3 w) => (unhide HP).call ⟨#[82, 79, 85, 78, 68]⟩ va [⟨1, A, noText, false, 0⟩, ⟨1, t * 10000, noText, false, 0⟩] w (by decide) (by simp) (two_small _ _) h he)
  have HC3 := hide (fun va w (h : ValsAt w va [⟨1, U, noText, false, 0⟩, ⟨1, t * 10000, noText, false, 0⟩]) (he : Env3 w) => (unhide HP).call ⟨#[82, 79, 85, 78, 68, 85, 80]⟩ va [⟨1, U, noText, false, 0⟩, ⟨1, t * 10000, noText, false, 0⟩] w (by decide) (by simp) (two_small _ _) h he)
  rw [ByteArray.toList_eq, c1, show callB [82, 79, 85, 78, 68, 85, 80] = true from by decide] at HC1
  rw [ByteArray.toList_eq, c2, show callB [82, 79, 85, 78, 68] = true from by decide] at HC2
  rw [ByteArray.toList_eq, c3, show callB [82, 79, 85, 78, 68, 85, 80] = true from by decide] at HC3
  have HM1 := hide (fun w => num_law ⟨1, U, noText, false, 0⟩ w)
  have HM2 := hide (fun w => num_law ⟨1, R, noText, false, 0⟩ w)
  unfold Vl.cells noText at HN1 HN2 HC1 HC2 HC3 HM1 HM2
  simp only [] at HN1 HN2 HC1 HC2 HC3 HM1 HM2
  have HF := hide (And.intro f1 (And.intro f2 (And.intro f3 (And.intro f4 f5))))
  have et2 : p % 5 = t := by rw [← et, Int.tmod_eq_emod_of_nonneg hp1]
  have HT := hide (And.intro eA et2)
  clear c1 c2 c3 f1 f2 f3 f4 f5 eA et et2 gA gt
  have HB := hide (Below.refl w.heap.size w)
  go_enter Tryz.func7, Tryz.ntmps7
  go_wp2_with fail
  simp only [(unhide HT).1]
  refine (unhide HN1 _).mono ?_
  rintro e w1 ⟨rfl, b1⟩
  replace HB := hide (below_nx (unhide HB) b1)
  clear b1
  go_wp2_with fail
  simp only [(unhide HT).2]
  refine (unhide HN2 _).mono ?_
  rintro e w2 ⟨rfl, b2⟩
  replace HB := hide (below_nx (unhide HB) b2)
  clear b2
  have HX := hide (five_old w2 28 (.int .i64 1) (.int .i64 A) (.string ⟨#[]⟩) (.bool false) (.int .i64 0) (.cells #[.int .i64 1, .int .i64 (t * 10000), .string ⟨#[]⟩, .bool false, .int .i64 0] 28))
  have HY := hide (five_new2 w2 (.cells #[.int .i64 1, .int .i64 A, .string ⟨#[]⟩, .bool false, .int .i64 0] 28) 28 (.int .i64 1) (.int .i64 (t * 10000)) (.string ⟨#[]⟩) (.bool false) (.int .i64 0))
  have bb := below_al2 w2 (.cells #[.int .i64 1, .int .i64 A, .string ⟨#[]⟩, .bool false, .int .i64 0] 28) (.cells #[.int .i64 1, .int .i64 (t * 10000), .string ⟨#[]⟩, .bool false, .int .i64 0] 28)
  replace HB := hide (below_nx (unhide HB) bb)
  clear bb
  go_upto_region 3 with fail
  generalize hW : (w2.alloc (.cells #[.int .i64 1, .int .i64 A, .string ⟨#[]⟩, .bool false, .int .i64 0] 28)).alloc (.cells #[.int .i64 1, .int .i64 (t * 10000), .string ⟨#[]⟩, .bool false, .int .i64 0] 28) = W0 at HX HY HB ⊢
  clear hW
  obtain ⟨hx_0, hx_1, hx_2, hx_3, hx_4⟩ := five_cells (unhide HX)
  obtain ⟨hy_0, hy_1, hy_2, hy_3, hy_4⟩ := five_cells (unhide HY)
  go_wp2_with fail
  refine (unhide HC1 _ _ (vals_two W0 _ ⟨1, A, noText, false, 0⟩ ⟨1, (t * 10000), noText, false, 0⟩) ((unhide HE).below (below_nx (unhide HB) (below_al W0 _)))).mono ?_
  rintro e w3 ⟨rfl, b3⟩
  replace b3 := below_nx (below_al W0 _) b3
  replace HX := hide (five_below (unhide HX) b3 (five_lt (unhide HX)))
  replace HY := hide (five_below (unhide HY) b3 (five_lt (unhide HY)))
  replace HB := hide (below_nx (unhide HB) b3)
  clear b3 hx_0 hx_1 hx_2 hx_3 hx_4 hy_0 hy_1 hy_2 hy_3 hy_4
  have HU := hide (five_new w3 28 (.int .i64 1) (.int .i64 U) (.string ⟨#[]⟩) (.bool false) (.int .i64 0))
  have bb := below_al w3 (.cells #[.int .i64 1, .int .i64 U, .string ⟨#[]⟩, .bool false, .int .i64 0] 28)
  replace HX := hide (five_below (unhide HX) bb (five_lt (unhide HX)))
  replace HY := hide (five_below (unhide HY) bb (five_lt (unhide HY)))
  replace HB := hide (below_nx (unhide HB) bb)
  clear bb
  go_upto_region 4 with fail
  generalize hW : w3.alloc (.cells #[.int .i64 1, .int .i64 U, .string ⟨#[]⟩, .bool false, .int .i64 0] 28) = W4 at HU HB HX HY ⊢
  clear hW
  obtain ⟨hx_0, hx_1, hx_2, hx_3, hx_4⟩ := five_cells (unhide HX)
  obtain ⟨hy_0, hy_1, hy_2, hy_3, hy_4⟩ := five_cells (unhide HY)
  go_wp2_with fail
  refine (unhide HC2 _ _ (vals_two W4 _ ⟨1, A, noText, false, 0⟩ ⟨1, (t * 10000), noText, false, 0⟩) ((unhide HE).below (below_nx (unhide HB) (below_al W4 _)))).mono ?_
  rintro e w5 ⟨rfl, b5⟩
  replace b5 := below_nx (below_al W4 _) b5
  replace HX := hide (five_below (unhide HX) b5 (five_lt (unhide HX)))
  replace HY := hide (five_below (unhide HY) b5 (five_lt (unhide HY)))
  replace HU := hide (five_below (unhide HU) b5 (five_lt (unhide HU)))
  replace HB := hide (below_nx (unhide HB) b5)
  clear b5 hx_0 hx_1 hx_2 hx_3 hx_4 hy_0 hy_1 hy_2 hy_3 hy_4
  have HR := hide (five_new w5 28 (.int .i64 1) (.int .i64 R) (.string ⟨#[]⟩) (.bool false) (.int .i64 0))
  have bb := below_al w5 (.cells #[.int .i64 1, .int .i64 R, .string ⟨#[]⟩, .bool false, .int .i64 0] 28)
  replace HX := hide (five_below (unhide HX) bb (five_lt (unhide HX)))
  replace HY := hide (five_below (unhide HY) bb (five_lt (unhide HY)))
  replace HU := hide (five_below (unhide HU) bb (five_lt (unhide HU)))
  replace HB := hide (below_nx (unhide HB) bb)
  clear bb
  go_upto_region 5 with fail
  generalize hW : w5.alloc (.cells #[.int .i64 1, .int .i64 R, .string ⟨#[]⟩, .bool false, .int .i64 0] 28) = W6 at HR HB HX HY HU ⊢
  clear hW
  obtain ⟨hu_0, hu_1, hu_2, hu_3, hu_4⟩ := five_cells (unhide HU)
  obtain ⟨hy_0, hy_1, hy_2, hy_3, hy_4⟩ := five_cells (unhide HY)
  go_wp2_with fail
  refine (unhide HC3 _ _ (vals_two W6 _ ⟨1, U, noText, false, 0⟩ ⟨1, (t * 10000), noText, false, 0⟩) ((unhide HE).below (below_nx (unhide HB) (below_al W6 _)))).mono ?_
  rintro e w7 ⟨rfl, b7⟩
  replace b7 := below_nx (below_al W6 _) b7
  replace HX := hide (five_below (unhide HX) b7 (five_lt (unhide HX)))
  replace HY := hide (five_below (unhide HY) b7 (five_lt (unhide HY)))
  replace HU := hide (five_below (unhide HU) b7 (five_lt (unhide HU)))
  replace HR := hide (five_below (unhide HR) b7 (five_lt (unhide HR)))
  replace HB := hide (below_nx (unhide HB) b7)
  clear b7 hu_0 hu_1 hu_2 hu_3 hu_4 hy_0 hy_1 hy_2 hy_3 hy_4
  have HG := hide (five_new w7 28 (.int .i64 1) (.int .i64 U) (.string ⟨#[]⟩) (.bool false) (.int .i64 0))
  have bb := below_al w7 (.cells #[.int .i64 1, .int .i64 U, .string ⟨#[]⟩, .bool false, .int .i64 0] 28)
  replace HX := hide (five_below (unhide HX) bb (five_lt (unhide HX)))
  replace HY := hide (five_below (unhide HY) bb (five_lt (unhide HY)))
  replace HU := hide (five_below (unhide HU) bb (five_lt (unhide HU)))
  replace HR := hide (five_below (unhide HR) bb (five_lt (unhide HR)))
  replace HB := hide (below_nx (unhide HB) bb)
  clear bb
  go_upto_region 6 with fail
  generalize hW : w7.alloc (.cells #[.int .i64 1, .int .i64 U, .string ⟨#[]⟩, .bool false, .int .i64 0] 28) = W8 at HG HB HX HY HU HR ⊢
  clear hW
  obtain ⟨hu_0, hu_1, hu_2, hu_3, hu_4⟩ := five_cells (unhide HU)
  go_wp2_with fail
  refine (unhide HM1 _).mono ?_
  rintro e w9 ⟨rfl, b9⟩
  replace HX := hide (five_below (unhide HX) b9 (five_lt (unhide HX)))
  replace HY := hide (five_below (unhide HY) b9 (five_lt (unhide HY)))
  replace HU := hide (five_below (unhide HU) b9 (five_lt (unhide HU)))
  replace HR := hide (five_below (unhide HR) b9 (five_lt (unhide HR)))
  replace HG := hide (five_below (unhide HG) b9 (five_lt (unhide HG)))
  replace HB := hide (below_nx (unhide HB) b9)
  clear b9 hu_0 hu_1 hu_2 hu_3 hu_4
  obtain ⟨hr_0, hr_1, hr_2, hr_3, hr_4⟩ := five_cells (unhide HR)
  go_wp2_with fail
  refine (unhide HM2 _).mono ?_
  rintro e w10 ⟨rfl, b10⟩
  replace HX := hide (five_below (unhide HX) b10 (five_lt (unhide HX)))
  replace HY := hide (five_below (unhide HY) b10 (five_lt (unhide HY)))
  replace HU := hide (five_below (unhide HU) b10 (five_lt (unhide HU)))
  replace HR := hide (five_below (unhide HR) b10 (five_lt (unhide HR)))
  replace HG := hide (five_below (unhide HG) b10 (five_lt (unhide HG)))
  replace HB := hide (below_nx (unhide HB) b10)
  clear b10 hr_0 hr_1 hr_2 hr_3 hr_4
  go_wp2_with fail
  refine (unhide HWK _ ((unhide HE).below (unhide HB))).mono ?_
  rintro e w11 ⟨rfl, b11⟩
  replace HX := hide (five_below (unhide HX) b11 (five_lt (unhide HX)))
  replace HY := hide (five_below (unhide HY) b11 (five_lt (unhide HY)))
  replace HU := hide (five_below (unhide HU) b11 (five_lt (unhide HU)))
  replace HR := hide (five_below (unhide HR) b11 (five_lt (unhide HR)))
  replace HG := hide (five_below (unhide HG) b11 (five_lt (unhide HG)))
  replace HB := hide (below_nx (unhide HB) b11)
  clear b11
  obtain ⟨hx_0, hx_1, hx_2, hx_3, hx_4⟩ := five_cells (unhide HX)
  obtain ⟨hu_0, hu_1, hu_2, hu_3, hu_4⟩ := five_cells (unhide HU)
  obtain ⟨hg_0, hg_1, hg_2, hg_3, hg_4⟩ := five_cells (unhide HG)
  have hne := vl_ne (⟨1, U, noText, false, 0⟩ : Vl)
  unfold noText at hne
  simp only [] at hne
  go_upto_region 10 with fail
  clear hx_0 hx_1 hx_2 hx_3 hx_4 hu_0 hu_1 hu_2 hu_3 hu_4 hg_0 hg_1 hg_2 hg_3 hg_4 hne HN1 HN2 HC1 HC2 HC3 HM1 HM2 HWK HY HU HR HG
  have htc : t = 0 ∨ t = 1 ∨ t = 2 ∨ t = 3 ∨ t = 4 := by omega
  rcases htc with rfl | rfl | rfl | rfl | rfl
  · have hpt := (unhide HT).2
    have F := unhide HF
    rw [show ((4 : Int) - 0).toNat = 4 from rfl, show (10 : Nat) ^ 4 = 10000 from rfl, show (10 : Int) ^ 4 = 10000 from rfl] at F
    have HF2 := hide F
    clear F HF
    go_upto_region 11 with fail
    have bb := below_al w11 (.cells #[.int .i64 10000, .int .i64 1000, .int .i64 100, .int .i64 10, .int .i64 1] 25)
    replace HX := hide (five_below (unhide HX) bb (five_lt (unhide HX)))
    replace HB := hide (below_nx (unhide HB) bb)
    clear bb
    generalize hW : w11.alloc (.cells #[.int .i64 10000, .int .i64 1000, .int .i64 100, .int .i64 10, .int .i64 1] 25) = WS at HX HB ⊢
    clear hW
    replace HX := hide (five_drew (unhide HX))
    replace HB := hide (unhide HB).drew
    obtain ⟨hx_0, hx_1, hx_2, hx_3, hx_4⟩ := five_cells (unhide HX)
    obtain ⟨f1, f2, f3, f4, f5⟩ := unhide HF2
    have d1 : max A (-A) ≤ max U (-U) := by omega
    have d2 : max U (-U) - max A (-A) < 10000 := by omega
    have d3 : U.tmod 10000 = 0 := by
      have h : (U.tmod 10000).natAbs = U.natAbs % 10000 := Int.natAbs_tmod U 10000
      omega
    have d4 : 0 ≤ max A (-A) ∧ max A (-A) ≤ 2000000000000000000 ∧ max U (-U) ≤ 2000000000000000000 := by omega
    obtain ⟨d4, d5, d6⟩ := d4
    clear f1 f2 f3 HF2
    go_region
    all_goals (try go_upto_region 12 with fail)
    generalize max U (-U) = M at d1 d2 d6 ⊢
    generalize max A (-A) = N at d1 d2 d4 d5 ⊢
    have hs : U = 0 ∨ (¬ U = 0 ∧ U < 0 ∧ A < 0) ∨ (¬ U = 0 ∧ ¬ U < 0 ∧ ¬ A < 0) := by
      rcases f5 with h | h
      · exact Or.inl h
      · have h2 := decide_eq_decide.1 h
        by_cases h0 : U = 0
        · exact Or.inl h0
        · by_cases h1 : U < 0
          · exact Or.inr (Or.inl ⟨h0, h1, h2.1 h1⟩)
          · exact Or.inr (Or.inr ⟨h0, h1, fun k => h1 (h2.2 k)⟩)
    clear f5
    have HFS := hide (And.intro f4 hs)
    clear f4 hs
    go_wp2
    all_goals go_ret
    all_goals refine ⟨?_, unhide HB⟩
    all_goals obtain ⟨f4, hs⟩ := unhide HFS
    all_goals first
      | rfl
      | (exfalso; omega)
      | (refine congrArg (fun b => Ending.returned (Value.bool b)) (a₂ := true) ?_; simp only [Bool.or_eq_true, beq_iff_eq, decide_eq_decide]; omega)
  · have hpt := (unhide HT).2
    have F := unhide HF
    rw [show ((4 : Int) - 1).toNat = 3 from rfl, show (10 : Nat) ^ 3 = 1000 from rfl, show (10 : Int) ^ 3 = 1000 from rfl] at F
    have HF2 := hide F
    clear F HF
    go_upto_region 11 with fail
    have bb := below_al w11 (.cells #[.int .i64 10000, .int .i64 1000, .int .i64 100, .int .i64 10, .int .i64 1] 25)
    replace HX := hide (five_below (unhide HX) bb (five_lt (unhide HX)))
    replace HB := hide (below_nx (unhide HB) bb)
    clear bb
    generalize hW : w11.alloc (.cells #[.int .i64 10000, .int .i64 1000, .int .i64 100, .int .i64 10, .int .i64 1] 25) = WS at HX HB ⊢
    clear hW
    replace HX := hide (five_drew (unhide HX))
    replace HB := hide (unhide HB).drew
    obtain ⟨hx_0, hx_1, hx_2, hx_3, hx_4⟩ := five_cells (unhide HX)
    obtain ⟨f1, f2, f3, f4, f5⟩ := unhide HF2
    have d1 : max A (-A) ≤ max U (-U) := by omega
    have d2 : max U (-U) - max A (-A) < 1000 := by omega
    have d3 : U.tmod 1000 = 0 := by
      have h : (U.tmod 1000).natAbs = U.natAbs % 1000 := Int.natAbs_tmod U 1000
      omega
    have d4 : 0 ≤ max A (-A) ∧ max A (-A) ≤ 2000000000000000000 ∧ max U (-U) ≤ 2000000000000000000 := by omega
    obtain ⟨d4, d5, d6⟩ := d4
    clear f1 f2 f3 HF2
    go_region
    all_goals (try go_upto_region 12 with fail)
    generalize max U (-U) = M at d1 d2 d6 ⊢
    generalize max A (-A) = N at d1 d2 d4 d5 ⊢
    have hs : U = 0 ∨ (¬ U = 0 ∧ U < 0 ∧ A < 0) ∨ (¬ U = 0 ∧ ¬ U < 0 ∧ ¬ A < 0) := by
      rcases f5 with h | h
      · exact Or.inl h
      · have h2 := decide_eq_decide.1 h
        by_cases h0 : U = 0
        · exact Or.inl h0
        · by_cases h1 : U < 0
          · exact Or.inr (Or.inl ⟨h0, h1, h2.1 h1⟩)
          · exact Or.inr (Or.inr ⟨h0, h1, fun k => h1 (h2.2 k)⟩)
    clear f5
    have HFS := hide (And.intro f4 hs)
    clear f4 hs
    go_wp2
    all_goals go_ret
    all_goals refine ⟨?_, unhide HB⟩
    all_goals obtain ⟨f4, hs⟩ := unhide HFS
    all_goals first
      | rfl
      | (exfalso; omega)
      | (refine congrArg (fun b => Ending.returned (Value.bool b)) (a₂ := true) ?_; simp only [Bool.or_eq_true, beq_iff_eq, decide_eq_decide]; omega)
  · have hpt := (unhide HT).2
    have F := unhide HF
    rw [show ((4 : Int) - 2).toNat = 2 from rfl, show (10 : Nat) ^ 2 = 100 from rfl, show (10 : Int) ^ 2 = 100 from rfl] at F
    have HF2 := hide F
    clear F HF
    go_upto_region 11 with fail
    have bb := below_al w11 (.cells #[.int .i64 10000, .int .i64 1000, .int .i64 100, .int .i64 10, .int .i64 1] 25)
    replace HX := hide (five_below (unhide HX) bb (five_lt (unhide HX)))
    replace HB := hide (below_nx (unhide HB) bb)
    clear bb
    generalize hW : w11.alloc (.cells #[.int .i64 10000, .int .i64 1000, .int .i64 100, .int .i64 10, .int .i64 1] 25) = WS at HX HB ⊢
    clear hW
    replace HX := hide (five_drew (unhide HX))
    replace HB := hide (unhide HB).drew
    obtain ⟨hx_0, hx_1, hx_2, hx_3, hx_4⟩ := five_cells (unhide HX)
    obtain ⟨f1, f2, f3, f4, f5⟩ := unhide HF2
    have d1 : max A (-A) ≤ max U (-U) := by omega
    have d2 : max U (-U) - max A (-A) < 100 := by omega
    have d3 : U.tmod 100 = 0 := by
      have h : (U.tmod 100).natAbs = U.natAbs % 100 := Int.natAbs_tmod U 100
      omega
    have d4 : 0 ≤ max A (-A) ∧ max A (-A) ≤ 2000000000000000000 ∧ max U (-U) ≤ 2000000000000000000 := by omega
    obtain ⟨d4, d5, d6⟩ := d4
    clear f1 f2 f3 HF2
    go_region
    all_goals (try go_upto_region 12 with fail)
    generalize max U (-U) = M at d1 d2 d6 ⊢
    generalize max A (-A) = N at d1 d2 d4 d5 ⊢
    have hs : U = 0 ∨ (¬ U = 0 ∧ U < 0 ∧ A < 0) ∨ (¬ U = 0 ∧ ¬ U < 0 ∧ ¬ A < 0) := by
      rcases f5 with h | h
      · exact Or.inl h
      · have h2 := decide_eq_decide.1 h
        by_cases h0 : U = 0
        · exact Or.inl h0
        · by_cases h1 : U < 0
          · exact Or.inr (Or.inl ⟨h0, h1, h2.1 h1⟩)
          · exact Or.inr (Or.inr ⟨h0, h1, fun k => h1 (h2.2 k)⟩)
    clear f5
    have HFS := hide (And.intro f4 hs)
    clear f4 hs
    go_wp2
    all_goals go_ret
    all_goals refine ⟨?_, unhide HB⟩
    all_goals obtain ⟨f4, hs⟩ := unhide HFS
    all_goals first
      | rfl
      | (exfalso; omega)
      | (refine congrArg (fun b => Ending.returned (Value.bool b)) (a₂ := true) ?_; simp only [Bool.or_eq_true, beq_iff_eq, decide_eq_decide]; omega)
  · have hpt := (unhide HT).2
    have F := unhide HF
    rw [show ((4 : Int) - 3).toNat = 1 from rfl, show (10 : Nat) ^ 1 = 10 from rfl, show (10 : Int) ^ 1 = 10 from rfl] at F
    have HF2 := hide F
    clear F HF
    go_upto_region 11 with fail
    have bb := below_al w11 (.cells #[.int .i64 10000, .int .i64 1000, .int .i64 100, .int .i64 10, .int .i64 1] 25)
    replace HX := hide (five_below (unhide HX) bb (five_lt (unhide HX)))
    replace HB := hide (below_nx (unhide HB) bb)
    clear bb
    generalize hW : w11.alloc (.cells #[.int .i64 10000, .int .i64 1000, .int .i64 100, .int .i64 10, .int .i64 1] 25) = WS at HX HB ⊢
    clear hW
    replace HX := hide (five_drew (unhide HX))
    replace HB := hide (unhide HB).drew
    obtain ⟨hx_0, hx_1, hx_2, hx_3, hx_4⟩ := five_cells (unhide HX)
    obtain ⟨f1, f2, f3, f4, f5⟩ := unhide HF2
    have d1 : max A (-A) ≤ max U (-U) := by omega
    have d2 : max U (-U) - max A (-A) < 10 := by omega
    have d3 : U.tmod 10 = 0 := by
      have h : (U.tmod 10).natAbs = U.natAbs % 10 := Int.natAbs_tmod U 10
      omega
    have d4 : 0 ≤ max A (-A) ∧ max A (-A) ≤ 2000000000000000000 ∧ max U (-U) ≤ 2000000000000000000 := by omega
    obtain ⟨d4, d5, d6⟩ := d4
    clear f1 f2 f3 HF2
    go_region
    all_goals (try go_upto_region 12 with fail)
    generalize max U (-U) = M at d1 d2 d6 ⊢
    generalize max A (-A) = N at d1 d2 d4 d5 ⊢
    have hs : U = 0 ∨ (¬ U = 0 ∧ U < 0 ∧ A < 0) ∨ (¬ U = 0 ∧ ¬ U < 0 ∧ ¬ A < 0) := by
      rcases f5 with h | h
      · exact Or.inl h
      · have h2 := decide_eq_decide.1 h
        by_cases h0 : U = 0
        · exact Or.inl h0
        · by_cases h1 : U < 0
          · exact Or.inr (Or.inl ⟨h0, h1, h2.1 h1⟩)
          · exact Or.inr (Or.inr ⟨h0, h1, fun k => h1 (h2.2 k)⟩)
    clear f5
    have HFS := hide (And.intro f4 hs)
    clear f4 hs
    go_wp2
    all_goals go_ret
    all_goals refine ⟨?_, unhide HB⟩
    all_goals obtain ⟨f4, hs⟩ := unhide HFS
    all_goals first
      | rfl
      | (exfalso; omega)
      | (refine congrArg (fun b => Ending.returned (Value.bool b)) (a₂ := true) ?_; simp only [Bool.or_eq_true, beq_iff_eq, decide_eq_decide]; omega)
  · have hpt := (unhide HT).2
    have F := unhide HF
    rw [show ((4 : Int) - 4).toNat = 0 from rfl, show (10 : Nat) ^ 0 = 1 from rfl, show (10 : Int) ^ 0 = 1 from rfl] at F
    have HF2 := hide F
    clear F HF
    go_upto_region 11 with fail
    have bb := below_al w11 (.cells #[.int .i64 10000, .int .i64 1000, .int .i64 100, .int .i64 10, .int .i64 1] 25)
    replace HX := hide (five_below (unhide HX) bb (five_lt (unhide HX)))
    replace HB := hide (below_nx (unhide HB) bb)
    clear bb
    generalize hW : w11.alloc (.cells #[.int .i64 10000, .int .i64 1000, .int .i64 100, .int .i64 10, .int .i64 1] 25) = WS at HX HB ⊢
    clear hW
    replace HX := hide (five_drew (unhide HX))
    replace HB := hide (unhide HB).drew
    obtain ⟨hx_0, hx_1, hx_2, hx_3, hx_4⟩ := five_cells (unhide HX)
    obtain ⟨f1, f2, f3, f4, f5⟩ := unhide HF2
    have d1 : max A (-A) ≤ max U (-U) := by omega
    have d2 : max U (-U) - max A (-A) < 1 := by omega
    have d3 : U.tmod 1 = 0 := by
      have h : (U.tmod 1).natAbs = U.natAbs % 1 := Int.natAbs_tmod U 1
      omega
    have d4 : 0 ≤ max A (-A) ∧ max A (-A) ≤ 2000000000000000000 ∧ max U (-U) ≤ 2000000000000000000 := by omega
    obtain ⟨d4, d5, d6⟩ := d4
    clear f1 f2 f3 HF2
    go_region
    all_goals (try go_upto_region 12 with fail)
    generalize max U (-U) = M at d1 d2 d6 ⊢
    generalize max A (-A) = N at d1 d2 d4 d5 ⊢
    have hs : U = 0 ∨ (¬ U = 0 ∧ U < 0 ∧ A < 0) ∨ (¬ U = 0 ∧ ¬ U < 0 ∧ ¬ A < 0) := by
      rcases f5 with h | h
      · exact Or.inl h
      · have h2 := decide_eq_decide.1 h
        by_cases h0 : U = 0
        · exact Or.inl h0
        · by_cases h1 : U < 0
          · exact Or.inr (Or.inl ⟨h0, h1, h2.1 h1⟩)
          · exact Or.inr (Or.inr ⟨h0, h1, fun k => h1 (h2.2 k)⟩)
    clear f5
    have HFS := hide (And.intro f4 hs)
    clear f4 hs
    go_wp2
    all_goals go_ret
    all_goals refine ⟨?_, unhide HB⟩
    all_goals obtain ⟨f4, hs⟩ := unhide HFS
    all_goals first
      | rfl
      | (exfalso; omega)
      | (refine congrArg (fun b => Ending.returned (Value.bool b)) (a₂ := true) ?_; simp only [Bool.or_eq_true, beq_iff_eq, decide_eq_decide]; omega)
end Go.Proofs.YtbeijnflfmjgfaaGreatDoor
