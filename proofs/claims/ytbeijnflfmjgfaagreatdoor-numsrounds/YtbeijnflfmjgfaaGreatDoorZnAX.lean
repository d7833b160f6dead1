/- The whole part by a divisor, what is left, and the greatest common divisor, as the law asks of them. -/
import Derived.BigQuiet
import Derived.BigRegion
import Derived.Deep.CutBlock
import Derived.Deep.CutRange
import Derived.Deep.DeepFit
import Derived.Deep.QuietTactic
import Derived.Deep.RegionHeld3
import Derived.Deep.RegionWith
import Derived.Deep.WholeRow
import Derived.Laws.Bits64b
import Derived.Laws.BitsAllLaws
import Derived.Laws.CopyOwn
import Derived.Laws.FloatArith
import Derived.Laws.IdiomStrings
import Derived.Laws.Rows
import Derived.Laws.StructEq
import Derived.Laws.Tables
import Derived.Lib.BitFns
import Derived.Lib.IndexBytes
import Derived.Lib.ItoaMem
import Derived.Lib.ItoaNum
import Derived.Lib.TrimByte
import Derived.Lib.Walk
import Derived.OwnWalk
import Derived.Shelf.Bits.Mul64
import Derived.Shelf.LaysM
import Derived.Shelf.Small.Bits
import Derived.Shelf.Small.Strs
import Derived.Shelf.Small.Wraps
import Derived.Shelf.Strconv.Itoa0
import Derived.Shelf.Strconv.Itoa1
import Derived.Shelf.Strconv.Itoa2
import Derived.Shelf.Strings.AsciiSet
import Derived.Shelf.Strings.Cut
import Derived.Shelf.Strings.Prefix
import Derived.Shelf.Strings.Search1
import Derived.Shelf.Strings.Search2
import Derived.Shelf.Strings.Shaped
import Derived.Shelf.Strings.Trim
import Derived.Test.YtbeijnflfmjgfaaGreatDoorProg
import Derived.Test.YtbeijnflfmjgfaaGreatDoorRows
import Derived.WalkKit
import Derived.WalkLawsBesides
import Derived.WalkSmall
import Derived.WalkSpells
import Ieee.Arith
import Derived.Test.YtbeijnflfmjgfaaGreatDoorZnAA
import Derived.Test.YtbeijnflfmjgfaaGreatDoorZnAB
import Derived.Test.YtbeijnflfmjgfaaGreatDoorZnAC
import Derived.Test.YtbeijnflfmjgfaaGreatDoorZnAD
import Derived.Test.YtbeijnflfmjgfaaGreatDoorZnAE
import Derived.Test.YtbeijnflfmjgfaaGreatDoorZnAF
import Derived.Test.YtbeijnflfmjgfaaGreatDoorZnAG
import Derived.Test.YtbeijnflfmjgfaaGreatDoorZnAH
import Derived.Test.YtbeijnflfmjgfaaGreatDoorZnAI
import Derived.Test.YtbeijnflfmjgfaaGreatDoorZnAJ
import Derived.Test.YtbeijnflfmjgfaaGreatDoorZnAK
import Derived.Test.YtbeijnflfmjgfaaGreatDoorZnAL
import Derived.Test.YtbeijnflfmjgfaaGreatDoorZnAM
import Derived.Test.YtbeijnflfmjgfaaGreatDoorZnAV
import Derived.Test.YtbeijnflfmjgfaaGreatDoorZnAN
import Derived.Test.YtbeijnflfmjgfaaGreatDoorZnAW
namespace Go.Proofs.YtbeijnflfmjgfaaGreatDoor
open Go.RowKit

theorem bad_n {n : Int} (h : goodB n = false) : vN n = vE 2 := by unfold vN; rw [if_neg (by simp [h])]
theorem num_bad : asNumV (vSound (vE 2)) = (0, 2) := by kernel_rfl
theorem two_bad (a b : Int) (l : List UInt8) (hl : takesL l = 2) (h : goodB a = false ∨ goodB b = false) : callV l [vN a, vN b] = vE 2 := by
  unfold callV
  rw [hl, if_neg (by omega), if_neg (by simp)]
  cases ga : goodB a
  · rw [bad_n ga]
    simp only [numsV, num_bad]
    rfl
  · have gb : goodB b = false := by rcases h with h | h; · rw [ga] at h; cases h
                                    · exact h
    rw [bad_n gb]
    simp only [numsV, num_bad, vN_num ga]
    rfl
theorem two_good (a b : Int) (l : List UInt8) (hl : takesL l = 2) (ga : goodB a = true) (gb : goodB b = true) : callV l [vN a, vN b] = twoV l a b := by
  unfold callV
  rw [hl, if_neg (by omega), if_neg (by simp)]
  simp only [numsV, vN_num ga, vN_num gb]
  rfl
theorem kind_of {n : Int} (h : (vN n).kind = 1) : goodB n = true := by
  cases hg : goodB n
  · rw [bad_n hg] at h; exact absurd h (by decide)
  · rfl
theorem whole_facts (a b : Int) (Q R : Vl) (eQ : callV [81, 85, 79, 84, 73, 69, 78, 84] [vN a, vN b] = Q) (eR : callV [77, 79, 68] [vN a, vN b] = R) (hQ : Q.kind = 1) (hR : R.kind = 1) :
    Q.num.tmod 10000 = 0 ∧ (vN b).num ≠ 0 ∧ (-9000000000000000000 ≤ (vN a).num ∧ (vN a).num ≤ 9000000000000000000) ∧ (-9000000000000000000 ≤ (vN b).num ∧ (vN b).num ≤ 9000000000000000000) ∧
      (R.num = (vN a).num.tmod (vN b).num ∨ R.num = (vN a).num.tmod (vN b).num + (vN b).num) ∧ -9000000000000000000 ≤ R.num ∧ R.num ≤ 9000000000000000000 := by
  have hE : (vE 2).kind ≠ 1 := by decide
  cases ga : goodB a
  · rw [two_bad a b _ (by decide) (Or.inl ga)] at eQ
    rw [← eQ] at hQ; exact absurd hQ hE
  cases gb : goodB b
  · rw [two_bad a b _ (by decide) (Or.inr gb)] at eQ
    rw [← eQ] at hQ; exact absurd hQ hE
  rw [two_good a b _ (by decide) ga gb] at eQ eR
  have e1 : twoV [81, 85, 79, 84, 73, 69, 78, 84] a b = quoV a b := by unfold twoV; rw [if_neg (by decide), if_neg (by decide), if_pos rfl]
  have e2 : twoV [77, 79, 68] a b = toldV (modR a b) := by unfold twoV; rw [if_neg (by decide), if_pos rfl]
  rw [e1] at eQ
  rw [e2] at eR
  have ba := (goodB_iff a).1 ga
  have bb := (goodB_iff b).1 gb
  by_cases h0 : b = 0
  · exfalso
    rw [← eQ] at hQ
    unfold quoV at hQ
    rw [if_pos h0] at hQ
    exact absurd hQ (by decide)
  rw [good_n ga, good_n gb]
  refine ⟨?_, h0, ba, bb, ?_⟩
  · rw [← eQ] at hQ ⊢
    unfold quoV at hQ ⊢
    rw [if_neg h0] at hQ ⊢
    by_cases hw : wholeB (a.tdiv b) = true
    · rw [if_pos hw] at hQ ⊢
      rw [good_n (kind_of hQ)]
      exact Int.mul_tmod_right 10000 (a.tdiv b)
    · rw [if_neg hw] at hQ
      exact absurd hQ hE
  · have e3 : modR a b = (modV a b, 0) := by unfold modR; rw [ga, gb]; simp [h0]
    rw [e3] at eR
    have e4 : toldV (modV a b, 0) = vN (modV a b) := rfl
    rw [e4] at eR
    rw [← eR] at hR ⊢
    have gm := (goodB_iff _).1 (kind_of hR)
    rw [good_n (kind_of hR)]
    refine ⟨?_, gm⟩
    show modV a b = a.tmod b ∨ modV a b = a.tmod b + b
    unfold modV
    split
    · exact Or.inr rfl
    · exact Or.inl rfl
theorem gcd_call (m n : Nat) (hm : m ≤ 1099511627775) (hn : n ≤ 1099511627775) :
    callV [71, 67, 68] [vN ((10000 * m : Nat) : Int), vN ((10000 * n : Nat) : Int)] = ⟨1, ((Nat.gcd (10000 * m) (10000 * n) : Nat) : Int), noText, false, 0⟩ := by
  have ga : goodB ((10000 * m : Nat) : Int) = true := by rw [goodB_iff]; omega
  have gb : goodB ((10000 * n : Nat) : Int) = true := by rw [goodB_iff]; omega
  rw [two_good _ _ _ (by decide) ga gb]
  have e1 : twoV [71, 67, 68] ((10000 * m : Nat) : Int) ((10000 * n : Nat) : Int) = gcdV ((10000 * m : Nat) : Int) ((10000 * n : Nat) : Int) := by
    unfold twoV; rw [if_neg (by decide), if_neg (by decide), if_neg (by decide), if_neg (by decide), if_pos rfl]
  rw [e1]
  have t1 : ((10000 * m : Nat) : Int).tmod 10000 = 0 := by rw [Int.tmod_eq_emod_of_nonneg (by omega)]; omega
  have t2 : ((10000 * n : Nat) : Int).tmod 10000 = 0 := by rw [Int.tmod_eq_emod_of_nonneg (by omega)]; omega
  unfold gcdV
  rw [if_neg (by omega), Int.toNat_natCast, Int.toNat_natCast]
  refine good_n ?_
  rw [goodB_iff]
  have hle : Nat.gcd (10000 * m) (10000 * n) ≤ 10000 * m + 10000 * n := by
    rcases Nat.eq_zero_or_pos (10000 * m) with h | h
    · rw [h, Nat.gcd_zero_left]; omega
    · exact Nat.le_trans (Nat.gcd_le_left _ h) (by omega)
  omega
theorem gcd_law (x y : Nat) : (Nat.gcd x y = 0 ∧ x = 0 ∧ y = 0) ∨ (0 < Nat.gcd x y ∧ x % Nat.gcd x y = 0 ∧ y % Nat.gcd x y = 0) := by
  rcases Nat.eq_zero_or_pos (Nat.gcd x y) with h | h
  · exact Or.inl ⟨h, Nat.gcd_eq_zero_iff.1 h⟩
  · exact Or.inr ⟨h, Nat.mod_eq_zero_of_dvd (Nat.gcd_dvd_left x y), Nat.mod_eq_zero_of_dvd (Nat.gcd_dvd_right x y)⟩
end Go.Proofs.YtbeijnflfmjgfaaGreatDoor

namespace Go.Proofs.YtbeijnflfmjgfaaGreatDoor
open Go.RowKit

theorem i64_and40 (n : Int) : bits .and .i64 n 1099511627775 = n % 1099511627776 := by
  have hc : (BitVec.ofInt 64 1099511627775).toNat = 2 ^ 40 - 1 := by decide
  have key : (BitVec.ofInt 64 n &&& BitVec.ofInt 64 1099511627775).toNat = (n % ((2 ^ 64 : Nat) : Int)).toNat % 2 ^ 40 := by
    rw [BitVec.toNat_and, BitVec.toNat_ofInt, hc, Nat.and_two_pow_sub_one_eq_mod]
  show IntKind.i64.wrap ((BitVec.ofInt 64 n &&& BitVec.ofInt 64 1099511627775).toNat : Nat) = n % 1099511627776
  rw [key, IntKind.wrap_i64]
  omega
theorem low_of (n : Int) : ∃ m : Nat, m ≤ 1099511627775 ∧ wrap64 (bits BinOp.and IntKind.i64 n 1099511627775 * 10000) = ((10000 * m : Nat) : Int) := by
  refine ⟨(n % 1099511627776).toNat, by omega, ?_⟩
  rw [i64_and40]
  unfold wrap64
  omega
theorem num2_law (V : Vl) (w : World) :
    Calls Tryz.prog 26 #[.agg V.cells] w fun e w' => e = .returned (.tuple #[.int .i64 V.num, .bool (V.kind == 1)]) ∧ Below w.heap.size w w' := by
  unfold Vl.cells
  go_enter Tryz.func26, Tryz.ntmps26
  go_wp2_with fail
  go_region
  all_goals (try go_wp2_with fail)
  all_goals go_ret2
  all_goals exact ⟨rfl, (below_al w _).drew⟩
theorem vN_size (n : Int) : (vN n).text.size ≤ 1000 := by
  unfold vN
  split
  · show noText.size ≤ 1000; decide
  · show noText.size ≤ 1000; decide
theorem two_sizes (a b : Vl) (ha : a.text.size ≤ 1000) (hb : b.text.size ≤ 1000) : ∀ x ∈ [a, b], x.text.size ≤ 1000 := by
  intro x hx
  simp at hx
  rcases hx with rfl | rfl
  · exact ha
  · exact hb

set_option maxRecDepth 100000 in
set_option maxHeartbeats 8000000 in
theorem whole_law (hp : PNums) (a b : Int) (w : World) (he : Env3 w) :
    Calls Tryz.prog 6 #[.int .i64 a, .int .i64 b] w fun e w' => e = .returned (.bool true) ∧ Below w.heap.size w w' := by
  have HE := hide he
  clear he
  have HP := hide hp
  clear hp
  have HWK := hide (fun w he => wakes9 (unhide HP) w he)
  have HN1 := hide (fun w => n_val a w)
  have HN2 := hide (fun w => n_val b w)
  have HWF := hide (fun Q R eQ eR hQ hR => whole_facts a b Q R eQ eR hQ hR)
  have ZX := hide (vN_size a)
  have ZY := hide (vN_size b)
  obtain ⟨X, eX⟩ : ∃ X, vN a = X := ⟨_, rfl⟩
  obtain ⟨Y, eY⟩ : ∃ Y, vN b = Y := ⟨_, rfl⟩
  rw [eX] at HN1 HWF ZX
  rw [eY] at HN2 HWF ZY
  clear eX eY
  have HC1 := hide (fun va w (h : ValsAt w va [X, Y]) (he : Env3 w) => (unhide HP).call ⟨#[81, 85, 79, 84, 73, 69, 78, 84]⟩ va [X, Y] w (by decide) (by simp) (two_sizes X Y (unhide ZX) (unhide ZY)) h he)
  have HC2 := hide (fun va w (h : ValsAt w va [X, Y]) (he : Env3 w) => (unhide HP).call ⟨#[77, 79, 68]⟩ va [X, Y] w (by decide) (by simp) (two_sizes X Y (unhide ZX) (unhide ZY)) h he)
  rw [ByteArray.toList_eq, show callB [81, 85, 79, 84, 73, 69, 78, 84] = true from by decide] at HC1
  rw [ByteArray.toList_eq, show callB [77, 79, 68] = true from by decide] at HC2
  obtain ⟨Q, eQ⟩ : ∃ Q, callV [81, 85, 79, 84, 73, 69, 78, 84] [X, Y] = Q := ⟨_, rfl⟩
  obtain ⟨R, eR⟩ : ∃ R, callV [77, 79, 68] [X, Y] = R := ⟨_, rfl⟩
  have HF := hide (unhide HWF Q R eQ eR)
  rw [eQ] at HC1
  rw [eR] at HC2
  clear eQ eR HWF
  have HM1 := hide (fun w => num2_law Q w)
  have HM2 := hide (fun w => num2_law R w)
  obtain ⟨qk, hqk⟩ : ∃ qk, (Q.kind == 1) = qk := ⟨_, rfl⟩
  obtain ⟨rk, hrk⟩ : ∃ rk, (R.kind == 1) = rk := ⟨_, rfl⟩
  rw [hqk] at HM1
  rw [hrk] at HM2
  have HK := hide (And.intro hqk hrk)
  clear hqk hrk
  unfold Vl.cells at HN1 HN2 HC1 HC2 HM1 HM2
  have HB := hide (Below.refl w.heap.size w)
  go_enter Tryz.func6, Tryz.ntmps6
  go_wp2_with fail
  refine (unhide HN1 _).mono ?_
  rintro e w1 ⟨rfl, b1⟩
  replace HB := hide (below_nx (unhide HB) b1)
  clear b1
  go_wp2_with fail
  refine (unhide HN2 _).mono ?_
  rintro e w2 ⟨rfl, b2⟩
  replace HB := hide (below_nx (unhide HB) b2)
  clear b2
  have hbx := (unhide HB).size
  have HX := hide (five_old w2 28 (.int .i64 X.kind) (.int .i64 X.num) (.string X.text) (.bool X.tr) (.int .i64 X.fail) (.cells #[.int .i64 Y.kind, .int .i64 Y.num, .string Y.text, .bool Y.tr, .int .i64 Y.fail] 28))
  have HY := hide (five_new2 w2 (.cells #[.int .i64 X.kind, .int .i64 X.num, .string X.text, .bool X.tr, .int .i64 X.fail] 28) 28 (.int .i64 Y.kind) (.int .i64 Y.num) (.string Y.text) (.bool Y.tr) (.int .i64 Y.fail))
  have bb := below_al2 w2 (.cells #[.int .i64 X.kind, .int .i64 X.num, .string X.text, .bool X.tr, .int .i64 X.fail] 28) (.cells #[.int .i64 Y.kind, .int .i64 Y.num, .string Y.text, .bool Y.tr, .int .i64 Y.fail] 28)
  replace HB := hide (below_nx (unhide HB) bb)
  clear bb
  go_upto_region 2 with fail
  generalize hW : (w2.alloc (.cells #[.int .i64 X.kind, .int .i64 X.num, .string X.text, .bool X.tr, .int .i64 X.fail] 28)).alloc (.cells #[.int .i64 Y.kind, .int .i64 Y.num, .string Y.text, .bool Y.tr, .int .i64 Y.fail] 28) = W0 at HX HY HB ⊢
  clear hW
  generalize w2.heap.size = BX at HX HY hbx ⊢
  obtain ⟨hx_0, hx_1, hx_2, hx_3, hx_4⟩ := five_cells (unhide HX)
  obtain ⟨hy_0, hy_1, hy_2, hy_3, hy_4⟩ := five_cells (unhide HY)
  go_wp2_with fail
  refine (unhide HC1 _ _ (vals_two W0 _ X Y) ((unhide HE).below (below_nx (unhide HB) (below_al W0 _)))).mono ?_
  rintro e w3 ⟨rfl, b3⟩
  replace b3 := below_nx (below_al W0 _) b3
  replace HX := hide (five_below (unhide HX) b3 (five_lt (unhide HX)))
  replace HY := hide (five_below (unhide HY) b3 (five_lt (unhide HY)))
  replace HB := hide (below_nx (unhide HB) b3)
  clear b3 hx_0 hx_1 hx_2 hx_3 hx_4 hy_0 hy_1 hy_2 hy_3 hy_4
  have HQ := hide (five_new w3 28 (.int .i64 Q.kind) (.int .i64 Q.num) (.string Q.text) (.bool Q.tr) (.int .i64 Q.fail))
  have bb := below_al w3 (.cells #[.int .i64 Q.kind, .int .i64 Q.num, .string Q.text, .bool Q.tr, .int .i64 Q.fail] 28)
  replace HX := hide (five_below (unhide HX) bb (five_lt (unhide HX)))
  replace HY := hide (five_below (unhide HY) bb (five_lt (unhide HY)))
  replace HB := hide (below_nx (unhide HB) bb)
  clear bb
  go_upto_region 3 with fail
  generalize hW : w3.alloc (.cells #[.int .i64 Q.kind, .int .i64 Q.num, .string Q.text, .bool Q.tr, .int .i64 Q.fail] 28) = W4 at HQ HB HX HY ⊢
  clear hW
  obtain ⟨hx_0, hx_1, hx_2, hx_3, hx_4⟩ := five_cells (unhide HX)
  obtain ⟨hy_0, hy_1, hy_2, hy_3, hy_4⟩ := five_cells (unhide HY)
  go_wp2_with fail
  refine (unhide HC2 _ _ (vals_two W4 _ X Y) ((unhide HE).below (below_nx (unhide HB) (below_al W4 _)))).mono ?_
  rintro e w5 ⟨rfl, b5⟩
  replace b5 := below_nx (below_al W4 _) b5
  replace HX := hide (five_below (unhide HX) b5 (five_lt (unhide HX)))
  replace HY := hide (five_below (unhide HY) b5 (five_lt (unhide HY)))
  replace HQ := hide (five_below (unhide HQ) b5 (five_lt (unhide HQ)))
  replace HB := hide (below_nx (unhide HB) b5)
  clear b5 hx_0 hx_1 hx_2 hx_3 hx_4 hy_0 hy_1 hy_2 hy_3 hy_4
  have HR := hide (five_new w5 28 (.int .i64 R.kind) (.int .i64 R.num) (.string R.text) (.bool R.tr) (.int .i64 R.fail))
  have bb := below_al w5 (.cells #[.int .i64 R.kind, .int .i64 R.num, .string R.text, .bool R.tr, .int .i64 R.fail] 28)
  replace HX := hide (five_below (unhide HX) bb (five_lt (unhide HX)))
  replace HY := hide (five_below (unhide HY) bb (five_lt (unhide HY)))
  replace HQ := hide (five_below (unhide HQ) bb (five_lt (unhide HQ)))
  replace HB := hide (below_nx (unhide HB) bb)
  clear bb
  go_upto_region 4 with fail
  generalize hW : w5.alloc (.cells #[.int .i64 R.kind, .int .i64 R.num, .string R.text, .bool R.tr, .int .i64 R.fail] 28) = W6 at HR HB HX HY HQ ⊢
  clear hW
  go_wp2_with fail
  refine (unhide HWK _ ((unhide HE).below (unhide HB))).mono ?_
  rintro e w7 ⟨rfl, b7⟩
  replace HX := hide (five_below (unhide HX) b7 (five_lt (unhide HX)))
  replace HY := hide (five_below (unhide HY) b7 (five_lt (unhide HY)))
  replace HQ := hide (five_below (unhide HQ) b7 (five_lt (unhide HQ)))
  replace HR := hide (five_below (unhide HR) b7 (five_lt (unhide HR)))
  replace HB := hide (below_nx (unhide HB) b7)
  clear b7
  obtain ⟨hq_0, hq_1, hq_2, hq_3, hq_4⟩ := five_cells (unhide HQ)
  go_wp2_with fail
  refine (unhide HM1 _).mono ?_
  rintro e w8 ⟨rfl, b8⟩
  replace HX := hide (five_below (unhide HX) b8 (five_lt (unhide HX)))
  replace HY := hide (five_below (unhide HY) b8 (five_lt (unhide HY)))
  replace HQ := hide (five_below (unhide HQ) b8 (five_lt (unhide HQ)))
  replace HR := hide (five_below (unhide HR) b8 (five_lt (unhide HR)))
  replace HB := hide (below_nx (unhide HB) b8)
  clear b8 hq_0 hq_1 hq_2 hq_3 hq_4
  obtain ⟨hr_0, hr_1, hr_2, hr_3, hr_4⟩ := five_cells (unhide HR)
  go_wp2_with fail
  refine (unhide HM2 _).mono ?_
  rintro e w9 ⟨rfl, b9⟩
  replace HX := hide (five_below (unhide HX) b9 (five_lt (unhide HX)))
  replace HY := hide (five_below (unhide HY) b9 (five_lt (unhide HY)))
  replace HQ := hide (five_below (unhide HQ) b9 (five_lt (unhide HQ)))
  replace HR := hide (five_below (unhide HR) b9 (five_lt (unhide HR)))
  replace HB := hide (below_nx (unhide HB) b9)
  clear b9 hr_0 hr_1 hr_2 hr_3 hr_4
  clear HQ
  clear HR
  go_upto_region 8 with fail
  clear HN1 HN2 HC1 HC2 HM1 HM2 HWK ZX ZY
  go_cut [87] from 88 (fun c wx => c = .bool false ∧ Hid (FiveAt wx BX 28 #[.int .i64 X.kind, .int .i64 X.num, .string X.text, .bool X.tr, .int .i64 X.fail]) ∧ Hid (FiveAt wx (BX + 1) 28 #[.int .i64 Y.kind, .int .i64 Y.num, .string Y.text, .bool Y.tr, .int .i64 Y.fail]) ∧ Hid (Below w.heap.size w wx))
  case first =>
    obtain ⟨hx_0, hx_1, hx_2, hx_3, hx_4⟩ := five_cells (unhide HX)
    obtain ⟨hy_0, hy_1, hy_2, hy_3, hy_4⟩ := five_cells (unhide HY)
    cases qk
    · clear HF HK
      go_quiet (fail)
      all_goals (try go_wp2_with fail)
      all_goals go_meet
      all_goals exact ⟨rfl, hide (unhide HX), hide (unhide HY), hide (below_drewN (unhide HB) nq)⟩
    cases rk
    · clear HF HK
      go_quiet (fail)
      all_goals (try go_wp2_with fail)
      all_goals go_meet
      all_goals exact ⟨rfl, hide (unhide HX), hide (unhide HY), hide (below_drewN (unhide HB) nq)⟩
    obtain ⟨g1, g2, ⟨g3, g4⟩, ⟨g5, g6⟩, g7, g8, g9⟩ := unhide HF (beq_iff_eq.1 (unhide HK).1) (beq_iff_eq.1 (unhide HK).2)
    clear HF HK
    by_cases h7 : R.num = X.num.tmod Y.num
    · clear g7
      go_quiet (fail)
      all_goals (try go_wp2_with fail)
      all_goals go_meet
      all_goals exact ⟨rfl, hide (unhide HX), hide (unhide HY), hide (below_drewN (unhide HB) nq)⟩
    have h8 : R.num = X.num.tmod Y.num + Y.num := by
      rcases g7 with g7 | g7
      · exact absurd g7 h7
      · exact g7
    have h9 : -9223372036854775808 ≤ X.num.tmod Y.num + Y.num := by omega
    have h10 : X.num.tmod Y.num + Y.num ≤ 9223372036854775807 := by omega
    clear g7
    have j1 : (Q.num.tmod 10000 != 0) = false := by simp [g1]
    have j2 : (R.num != X.num.tmod Y.num) = true := by simp [h7]
    have j3 : (R.num != X.num.tmod Y.num + Y.num) = false := by simp [h8]
    have j4 : (R.num == X.num.tmod Y.num) = false := by rw [beq_eq_false_iff_ne]; exact h7
    have j5 : (R.num == X.num.tmod Y.num + Y.num) = true := by rw [beq_iff_eq]; exact h8
    clear h7 h8
    go_quiet (fail)
    all_goals (try go_wp2_with fail)
    all_goals go_meet
    all_goals exact ⟨rfl, hide (unhide HX), hide (unhide HY), hide (below_drewN (unhide HB) nq)⟩
  case rest =>
    obtain ⟨rfl, HX, HY, HB⟩ := hcut
    clear HF HK
    obtain ⟨m, hm, em⟩ := low_of a
    obtain ⟨n, hn, en⟩ := low_of b
    have HG := hide (gcd_call m n hm hn)
    have HG2 := hide (gcd_call n m hn hm)
    have HL := hide (gcd_law (10000 * m) (10000 * n))
    have gm : vN ((10000 * m : Nat) : Int) = ⟨1, ((10000 * m : Nat) : Int), noText, false, 0⟩ := good_n (by rw [goodB_iff]; omega)
    have gn : vN ((10000 * n : Nat) : Int) = ⟨1, ((10000 * n : Nat) : Int), noText, false, 0⟩ := good_n (by rw [goodB_iff]; omega)
    have HN3 := hide (fun w => n_val ((10000 * m : Nat) : Int) w)
    have HN4 := hide (fun w => n_val ((10000 * n : Nat) : Int) w)
    have ZX := hide (vN_size ((10000 * m : Nat) : Int))
    have ZY := hide (vN_size ((10000 * n : Nat) : Int))
    rw [Nat.gcd_comm] at HG2
    obtain ⟨X2, eX⟩ : ∃ X2, vN ((10000 * m : Nat) : Int) = X2 := ⟨_, rfl⟩
    obtain ⟨Y2, eY⟩ : ∃ Y2, vN ((10000 * n : Nat) : Int) = Y2 := ⟨_, rfl⟩
    have nX : X2.num = ((10000 * m : Nat) : Int) := by rw [← eX, gm]
    have nY : Y2.num = ((10000 * n : Nat) : Int) := by rw [← eY, gn]
    rw [eX] at HN3 ZX HG HG2
    rw [eY] at HN4 ZY HG HG2
    have HE1 := hide (And.intro em en)
    clear em en gm gn eX eY
    obtain ⟨g, eg⟩ : ∃ g, Nat.gcd (10000 * m) (10000 * n) = g := ⟨_, rfl⟩
    rw [eg] at HG HG2 HL
    obtain ⟨D, eD⟩ : ∃ D : Vl, D = ⟨1, (g : Int), noText, false, 0⟩ := ⟨_, rfl⟩
    rw [← eD] at HG HG2
    have nD : D.num = (g : Int) ∧ (D.kind == 1) = true := by rw [eD]; exact ⟨rfl, rfl⟩
    have HND := hide (And.intro nX (And.intro nY nD.1))
    have HM3 := hide (fun w => num2_law D w)
    rw [nD.2] at HM3
    clear eD nD nX nY eg hm hn
    have HC3 := hide (fun va w (h : ValsAt w va [X2, Y2]) (he : Env3 w) => (unhide HP).call ⟨#[71, 67, 68]⟩ va [X2, Y2] w (by decide) (by simp) (two_sizes X2 Y2 (unhide ZX) (unhide ZY)) h he)
    have HC4 := hide (fun va w (h : ValsAt w va [Y2, X2]) (he : Env3 w) => (unhide HP).call ⟨#[71, 67, 68]⟩ va [Y2, X2] w (by decide) (by simp) (two_sizes Y2 X2 (unhide ZY) (unhide ZX)) h he)
    rw [ByteArray.toList_eq, show callB [71, 67, 68] = true from by decide, unhide HG] at HC3
    rw [ByteArray.toList_eq, show callB [71, 67, 68] = true from by decide, unhide HG2] at HC4
    clear HG HG2
    have hsm := vl_same D
    unfold Vl.cells at HN3 HN4 HC3 HC4 HM3
    go_wp2_with fail
    rw [(unhide HE1).1]
    refine (unhide HN3 _).mono ?_
    rintro e w10 ⟨rfl, b10⟩
    replace HX := hide (five_below (unhide HX) b10 (five_lt (unhide HX)))
    replace HY := hide (five_below (unhide HY) b10 (five_lt (unhide HY)))
    replace HB := hide (below_nx (unhide HB) b10)
    clear b10
    go_wp2_with fail
    rw [(unhide HE1).2]
    refine (unhide HN4 _).mono ?_
    rintro e w11 ⟨rfl, b11⟩
    replace HX := hide (five_below (unhide HX) b11 (five_lt (unhide HX)))
    replace HY := hide (five_below (unhide HY) b11 (five_lt (unhide HY)))
    replace HB := hide (below_nx (unhide HB) b11)
    clear b11
    obtain ⟨⟨⟨x0, c0⟩, ⟨x1, c1⟩, ⟨x2, c2⟩, ⟨x3, c3⟩, x4, c4⟩, f0, f1, f2, f3, f4⟩ := five_all (unhide HX)
    obtain ⟨⟨⟨y0, d0⟩, ⟨y1, d1⟩, ⟨y2, d2⟩, ⟨y3, d3⟩, y4, d4⟩, e0, e1, e2, e3, e4⟩ := five_all (unhide HY)
    go_upto_region 11 with fail
    have hX2 := five_other (five_set (unhide HX) (.int .i64 X2.kind) (.int .i64 X2.num) (.string X2.text) (.bool X2.tr) (.int .i64 X2.fail)) (BX + 1) (by omega) (.int .i64 Y2.kind) (.int .i64 Y2.num) (.string Y2.text) (.bool Y2.tr) (.int .i64 Y2.fail)
    have hY2 := five_set (five_other (unhide HY) BX (by omega) (.int .i64 X2.kind) (.int .i64 X2.num) (.string X2.text) (.bool X2.tr) (.int .i64 X2.fail)) (.int .i64 Y2.kind) (.int .i64 Y2.num) (.string Y2.text) (.bool Y2.tr) (.int .i64 Y2.fail)
    replace HB := hide (below_five (below_five (unhide HB) hbx (.int .i64 X2.kind) (.int .i64 X2.num) (.string X2.text) (.bool X2.tr) (.int .i64 X2.fail)) (show w.heap.size ≤ BX + 1 by omega) (.int .i64 Y2.kind) (.int .i64 Y2.num) (.string Y2.text) (.bool Y2.tr) (.int .i64 Y2.fail))
    replace HX := hide hX2
    replace HY := hide hY2
    clear hX2 hY2 x0 c0 x1 c1 x2 c2 x3 c3 x4 c4 f0 f1 f2 f3 f4 y0 d0 y1 d1 y2 d2 y3 d3 y4 d4 e0 e1 e2 e3 e4
    generalize hW : ((((((((((w11.setCell ⟨BX, 0, none⟩ (.int .i64 X2.kind)).setCell ⟨BX, 1, none⟩ (.int .i64 X2.num)).setCell ⟨BX, 2, none⟩ (.string X2.text)).setCell ⟨BX, 3, none⟩ (.bool X2.tr)).setCell ⟨BX, 4, none⟩ (.int .i64 X2.fail)).setCell ⟨BX + 1, 0, none⟩ (.int .i64 Y2.kind)).setCell ⟨BX + 1, 1, none⟩ (.int .i64 Y2.num)).setCell ⟨BX + 1, 2, none⟩ (.string Y2.text)).setCell ⟨BX + 1, 3, none⟩ (.bool Y2.tr)).setCell ⟨BX + 1, 4, none⟩ (.int .i64 Y2.fail)) = WS at HX HY HB ⊢
    clear hW
    obtain ⟨hx_0, hx_1, hx_2, hx_3, hx_4⟩ := five_cells (unhide HX)
    obtain ⟨hy_0, hy_1, hy_2, hy_3, hy_4⟩ := five_cells (unhide HY)
    go_wp2_with fail
    refine (unhide HC3 _ _ (vals_two WS _ X2 Y2) ((unhide HE).below (below_nx (unhide HB) (below_al WS _)))).mono ?_
    rintro e w12 ⟨rfl, b12⟩
    replace b12 := below_nx (below_al WS _) b12
    replace HX := hide (five_below (unhide HX) b12 (five_lt (unhide HX)))
    replace HY := hide (five_below (unhide HY) b12 (five_lt (unhide HY)))
    replace HB := hide (below_nx (unhide HB) b12)
    clear b12 hx_0 hx_1 hx_2 hx_3 hx_4 hy_0 hy_1 hy_2 hy_3 hy_4
    have HU := hide (five_new w12 28 (.int .i64 D.kind) (.int .i64 D.num) (.string D.text) (.bool D.tr) (.int .i64 D.fail))
    have bb := below_al w12 (.cells #[.int .i64 D.kind, .int .i64 D.num, .string D.text, .bool D.tr, .int .i64 D.fail] 28)
    replace HX := hide (five_below (unhide HX) bb (five_lt (unhide HX)))
    replace HY := hide (five_below (unhide HY) bb (five_lt (unhide HY)))
    replace HB := hide (below_nx (unhide HB) bb)
    clear bb
    go_upto_region 12 with fail
    generalize hW : w12.alloc (.cells #[.int .i64 D.kind, .int .i64 D.num, .string D.text, .bool D.tr, .int .i64 D.fail] 28) = W13 at HU HB HX HY ⊢
    clear hW
    obtain ⟨hy_0, hy_1, hy_2, hy_3, hy_4⟩ := five_cells (unhide HY)
    obtain ⟨hx_0, hx_1, hx_2, hx_3, hx_4⟩ := five_cells (unhide HX)
    go_wp2_with fail
    refine (unhide HC4 _ _ (vals_two W13 _ Y2 X2) ((unhide HE).below (below_nx (unhide HB) (below_al W13 _)))).mono ?_
    rintro e w14 ⟨rfl, b14⟩
    replace b14 := below_nx (below_al W13 _) b14
    replace HX := hide (five_below (unhide HX) b14 (five_lt (unhide HX)))
    replace HY := hide (five_below (unhide HY) b14 (five_lt (unhide HY)))
    replace HU := hide (five_below (unhide HU) b14 (five_lt (unhide HU)))
    replace HB := hide (below_nx (unhide HB) b14)
    clear b14 hy_0 hy_1 hy_2 hy_3 hy_4 hx_0 hx_1 hx_2 hx_3 hx_4
    have HV := hide (five_new w14 28 (.int .i64 D.kind) (.int .i64 D.num) (.string D.text) (.bool D.tr) (.int .i64 D.fail))
    have bb := below_al w14 (.cells #[.int .i64 D.kind, .int .i64 D.num, .string D.text, .bool D.tr, .int .i64 D.fail] 28)
    replace HX := hide (five_below (unhide HX) bb (five_lt (unhide HX)))
    replace HY := hide (five_below (unhide HY) bb (five_lt (unhide HY)))
    replace HU := hide (five_below (unhide HU) bb (five_lt (unhide HU)))
    replace HB := hide (below_nx (unhide HB) bb)
    clear bb
    go_upto_region 13 with fail
    generalize hW : w14.alloc (.cells #[.int .i64 D.kind, .int .i64 D.num, .string D.text, .bool D.tr, .int .i64 D.fail] 28) = W15 at HV HB HX HY HU ⊢
    clear hW
    obtain ⟨hu_0, hu_1, hu_2, hu_3, hu_4⟩ := five_cells (unhide HU)
    go_wp2_with fail
    refine (unhide HM3 _).mono ?_
    rintro e w16 ⟨rfl, b16⟩
    replace HX := hide (five_below (unhide HX) b16 (five_lt (unhide HX)))
    replace HY := hide (five_below (unhide HY) b16 (five_lt (unhide HY)))
    replace HU := hide (five_below (unhide HU) b16 (five_lt (unhide HU)))
    replace HV := hide (five_below (unhide HV) b16 (five_lt (unhide HV)))
    replace HB := hide (below_nx (unhide HB) b16)
    clear b16 hu_0 hu_1 hu_2 hu_3 hu_4
    obtain ⟨hx_0, hx_1, hx_2, hx_3, hx_4⟩ := five_cells (unhide HX)
    obtain ⟨hy_0, hy_1, hy_2, hy_3, hy_4⟩ := five_cells (unhide HY)
    obtain ⟨hu_0, hu_1, hu_2, hu_3, hu_4⟩ := five_cells (unhide HU)
    obtain ⟨hv_0, hv_1, hv_2, hv_3, hv_4⟩ := five_cells (unhide HV)
    obtain ⟨nX, nY, nD⟩ := unhide HND
    clear HND
    rcases unhide HL with ⟨l1, l2, l3⟩ | ⟨l1, l2, l3⟩
    · have k1 : D.num = 0 := by rw [nD, l1]; rfl
      have k2 : X2.num = 0 := by rw [nX, l2]; rfl
      have k3 : Y2.num = 0 := by rw [nY, l3]; rfl
      clear nX nY nD l1 l2 l3
      go_wp2
      go_ret
      exact ⟨rfl, unhide HB⟩
    · have k1 : 0 < D.num := by rw [nD]; omega
      have k0 : (D.num == 0) = false := by rw [beq_eq_false_iff_ne]; omega
      have k2 : X2.num.tmod D.num = 0 := by rw [nX, nD, Int.tmod_eq_emod_of_nonneg (by omega), ← Int.natCast_emod, l2]; rfl
      have k3 : Y2.num.tmod D.num = 0 := by rw [nY, nD, Int.tmod_eq_emod_of_nonneg (by omega), ← Int.natCast_emod, l3]; rfl
      have k4 : ¬ D.num = 0 := by omega
      clear nX nY nD l1 l2 l3
      go_wp2
      go_ret
      exact ⟨rfl, unhide HB⟩
end Go.Proofs.YtbeijnflfmjgfaaGreatDoor

namespace Go.Proofs.YtbeijnflfmjgfaaGreatDoor
open Go.RowKit

theorem u8_in {p : Int} (h : (Lit.int .u8 p).wf = true) : 0 ≤ p ∧ p ≤ 255 := by
  have h1 : IntKind.u8.min ≤ p ∧ p ≤ IntKind.u8.max := by simpa [Lit.wf] using h
  have e1 : IntKind.u8.min = 0 := by decide
  have e2 : IntKind.u8.max = 255 := by decide
  omega
theorem rounds_walk (hp : PNums) (a p : Int) (w : World) (_ha : (Lit.int .i64 a).wf = true) (hb : (Lit.int .u8 p).wf = true) (he : Env3 w) :
    Calls Tryz.prog 7 #[.int .i64 a, .int .u8 p] w fun e w' => e = .returned (.bool true) ∧ Below w.heap.size w w' :=
  rounds_law hp a p w (u8_in hb).1 (u8_in hb).2 he
theorem whole_walk (hp : PNums) (a b : Int) (w : World) (_ha : (Lit.int .i64 a).wf = true) (_hb : (Lit.int .i64 b).wf = true) (he : Env3 w) :
    Calls Tryz.prog 6 #[.int .i64 a, .int .i64 b] w fun e w' => e = .returned (.bool true) ∧ Below w.heap.size w w' :=
  whole_law hp a b w he
end Go.Proofs.YtbeijnflfmjgfaaGreatDoor
