/- The order of values is turned when they are, and goes on from one to the next. -/
import Derived.BigQuiet
import Derived.BigRegion
import Derived.Deep.CutBlock
import Derived.Deep.CutRange
import Derived.Deep.DeepFit
import Derived.Deep.QuietTactic
import Derived.Deep.RegionWith
import Derived.Laws.Bits64b
import Derived.Laws.BitsAllLaws
import Derived.Laws.FloatArith
import Derived.Laws.IdiomStrings
import Derived.Laws.Rows
import Derived.Laws.StructEq
import Derived.Lib.BitFns
import Derived.Lib.IndexBytes
import Derived.Lib.ItoaMem
import Derived.Lib.ItoaNum
import Derived.Lib.TrimByte
import Derived.Lib.Walk
import Derived.OwnWalk
import Derived.Shelf.Bits.Mul64
import Derived.Shelf.LaysM
import Derived.Shelf.Small.Bits
import Derived.Shelf.Small.Strs
import Derived.Shelf.Small.Wraps
import Derived.Shelf.Strconv.Itoa0
import Derived.Shelf.Strconv.Itoa1
import Derived.Shelf.Strconv.Itoa2
import Derived.Shelf.Strings.AsciiSet
import Derived.Shelf.Strings.Cut
import Derived.Shelf.Strings.Prefix
import Derived.Shelf.Strings.Search1
import Derived.Shelf.Strings.Search2
import Derived.Shelf.Strings.Shaped
import Derived.Shelf.Strings.Trim
import Derived.Test.YtbeijnflfmjgfaaGreatDoorProg
import Derived.Test.YtbeijnflfmjgfaaGreatDoorRows
import Derived.WalkKit
import Derived.WalkLawsBesides
import Derived.WalkSmall
import Derived.WalkSpells
import Ieee.Arith
import Derived.Test.YtbeijnflfmjgfaaGreatDoorZnAA
import Derived.Test.YtbeijnflfmjgfaaGreatDoorZnAB
import Derived.Test.YtbeijnflfmjgfaaGreatDoorZnAC
import Derived.Test.YtbeijnflfmjgfaaGreatDoorZnAD
import Derived.Test.YtbeijnflfmjgfaaGreatDoorZnAE
import Derived.Test.YtbeijnflfmjgfaaGreatDoorZnAF
import Derived.Test.YtbeijnflfmjgfaaGreatDoorZnAG
import Derived.Test.YtbeijnflfmjgfaaGreatDoorZnAH
import Derived.Test.YtbeijnflfmjgfaaGreatDoorZnAK
import Derived.Test.YtbeijnflfmjgfaaGreatDoorZnAL
import Derived.Test.YtbeijnflfmjgfaaGreatDoorZnAI
import Derived.Test.YtbeijnflfmjgfaaGreatDoorZnAJ
import Derived.Test.YtbeijnflfmjgfaaGreatDoorZnAM
namespace Go.Proofs.YtbeijnflfmjgfaaGreatDoor
open Go.RowKit

theorem cmpV_turn (a b : Int) : cmpV b a = -cmpV a b := by
  unfold cmpV
  by_cases h1 : a < b
  · rw [if_neg (by omega), if_pos h1, if_pos h1]; rfl
  · by_cases h2 : b < a
    · rw [if_pos h2, if_neg h1, if_pos h2]
    · rw [if_neg h2, if_neg h1, if_neg h1, if_neg h2]; rfl
theorem ltL_turn (l m : List UInt8) : ltL m l = -ltL l m := by
  induction l generalizing m with
  | nil => cases m <;> rfl
  | cons a l ih =>
    cases m with
    | nil => rfl
    | cons b m =>
      unfold ltL
      by_cases h1 : a.toNat < b.toNat
      · have h2 : ¬ b.toNat < a.toNat := by omega
        rw [if_neg h2, if_pos h1, if_pos h1]; rfl
      · by_cases h2 : b.toNat < a.toNat
        · rw [if_pos h2, if_neg h1, if_pos h2]
        · rw [if_neg h2, if_neg h1, if_neg h1, if_neg h2]; exact ih m
theorem ordP_turn (U X : Vl) : ordP X U = -ordP U X := by
  unfold ordP
  by_cases h : U.kind = X.kind
  · rw [if_pos h, if_pos h.symm, ← h]
    by_cases h2 : U.kind = 2
    · rw [if_pos h2, if_pos h2]; exact ltL_turn _ _
    · rw [if_neg h2, if_neg h2]; exact cmpV_turn _ _
  · rw [if_neg h, if_neg (Ne.symm h)]; exact cmpV_turn _ _
end Go.Proofs.YtbeijnflfmjgfaaGreatDoor

namespace Go.Proofs.YtbeijnflfmjgfaaGreatDoor
open Go.RowKit

theorem sound_is {X : Vl} (h : vGood X = true) : vSound X = X := by unfold vSound; rw [if_pos h]
theorem ok_turn (a b : Int) : okAdd a b = okAdd b a := by unfold okAdd; rw [Bool.and_comm (goodB a), Int.add_comm a b]
theorem add_turn (a b : Int) : (addN a b, addE a b) = (addN b a, addE b a) := by unfold addN addE; rw [ok_turn a b, Int.add_comm a b]
theorem sc_turn (c : Bool) (x y z : Nat) : scR c x y z = scR c y x z := by unfold scR nrOk nrV nrOk; rw [Nat.mul_comm x y]
theorem mul_turn (a b : Int) : mulR a b = mulR b a := by
  unfold mulR
  rw [Bool.and_comm (goodB a), bne_comm, sc_turn]
theorem num_val {X : Vl} (h : vGood X = true) (hk : X.kind ≠ 4) : (asNumV X).2 = 0 ∨ (asNumV X).2 = 3 := by
  rcases good_form9 X h with rfl | ⟨n, hn, rfl⟩ | ⟨s, hs, rfl⟩ | ⟨b, rfl⟩ | ⟨f, h1, h8, rfl⟩
  · exact Or.inl rfl
  · exact Or.inl rfl
  · unfold asNumV
    simp only []
    by_cases hq : ((parseR (bareV s).data.toList).2 != 0) = true
    · right; simp [hq]
    · left; simp [hq]
  · cases b <;> exact Or.inl rfl
  · exact absurd rfl hk
theorem both_turn {s : List UInt8} {x y : Int × Int} (hx : x.2 = 0 ∨ x.2 = 3) (hy : y.2 = 0 ∨ y.2 = 3) (h : arithV s x.1 y.1 = arithV s y.1 x.1) : bothV s x y = bothV s y x := by
  unfold bothV
  rcases hx with hx | hx <;> rcases hy with hy | hy
  · rw [hx, hy]; simpa using h
  · rw [hx, hy]; simp
  · rw [hx, hy]; simp
  · rw [hx, hy]; simp
theorem bin_plus (X Y : Vl) (hX : vGood X = true) (hY : vGood Y = true) (kX : X.kind ≠ 4) (kY : Y.kind ≠ 4) : binS [43] X Y = binS [43] Y X := by
  show bothV [43] (asNumV X) (asNumV Y) = bothV [43] (asNumV Y) (asNumV X)
  refine both_turn (num_val hX kX) (num_val hY kY) ?_
  show toldV (addN _ _, addE _ _) = toldV (addN _ _, addE _ _)
  rw [add_turn]
theorem bin_times (X Y : Vl) (hX : vGood X = true) (hY : vGood Y = true) (kX : X.kind ≠ 4) (kY : Y.kind ≠ 4) : binS [42] X Y = binS [42] Y X := by
  show bothV [42] (asNumV X) (asNumV Y) = bothV [42] (asNumV Y) (asNumV X)
  refine both_turn (num_val hX kX) (num_val hY kY) ?_
  show toldV (mulR _ _) = toldV (mulR _ _)
  rw [mul_turn]
theorem ord_none (X Y : Vl) (kX : X.kind ≠ 4) (kY : Y.kind ≠ 4) : (ordV3 X Y).2 = 0 := by
  unfold ordV3
  rw [if_neg kX, if_neg kY]
  repeat' split
  all_goals rfl
theorem ord_neg (X Y : Vl) (hX : vGood X = true) (hY : vGood Y = true) (kX : X.kind ≠ 4) (kY : Y.kind ≠ 4) : (ordV3 Y X).1 = -(ordV3 X Y).1 := by
  rw [ord_prog X Y hX hY kX kY, ord_prog Y X hY hX kY kX]
  exact ordP_turn _ _
theorem cmp_form (s : List UInt8) (h : lineL s = 1) (X Y : Vl) (kX : X.kind ≠ 4) (kY : Y.kind ≠ 4) : binS s X Y = vB (cmpL s (ordV3 X Y).1) := by
  unfold binS
  rw [if_neg (by omega), if_pos h, if_neg (by rw [ord_none X Y kX kY]; simp)]
theorem bin_cmp (X Y : Vl) (hX : vGood X = true) (hY : vGood Y = true) (kX : X.kind ≠ 4) (kY : Y.kind ≠ 4) :
    binS [61] X Y = binS [61] Y X ∧ binS [60, 62] X Y = binS [60, 62] Y X ∧ binS [60] X Y = binS [62] Y X := by
  have e := ord_neg X Y hX hY kX kY
  refine ⟨?_, ?_, ?_⟩
  · rw [cmp_form _ (by decide) X Y kX kY, cmp_form _ (by decide) Y X kY kX, e]
    show vB (decide (_ = 0)) = vB (decide (_ = 0))
    congr 2
    rw [eq_iff_iff]; omega
  · rw [cmp_form _ (by decide) X Y kX kY, cmp_form _ (by decide) Y X kY kX, e]
    show vB (!decide (_ = 0)) = vB (!decide (_ = 0))
    congr 3
    rw [eq_iff_iff]; omega
  · rw [cmp_form _ (by decide) X Y kX kY, cmp_form _ (by decide) Y X kY kX, e]
    show vB (decide (_ = -1)) = vB (decide (_ = 1))
    congr 2
    rw [eq_iff_iff]; omega
theorem good_n {n : Int} (h : goodB n = true) : vN n = ⟨1, n, noText, false, 0⟩ := by unfold vN; rw [if_pos h]
theorem neg_good {n : Int} (h1 : -9000000000000000000 ≤ n) (h2 : n ≤ 9000000000000000000) : goodB (-n) = true := by rw [goodB_iff]; omega
theorem vN_num {n : Int} (h : goodB n = true) : asNumV (vSound (vN n)) = (n, 0) := by
  have hg : vGood (vN n) = true := by rw [good_n h]; unfold vGood; simp [h, ByteArray.toList_eq]
  rw [sound_is hg, good_n h]
  rfl
theorem bin_minus (X Y : Vl) (hX : vGood X = true) (hY : vGood Y = true) (kX : X.kind ≠ 4) (kY : Y.kind ≠ 4) :
    binS [45] X Y = binS [43] X (vSound (negV (asNumV Y))) := by
  show bothV [45] (asNumV X) (asNumV Y) = bothV [43] (asNumV X) (asNumV (vSound (negV (asNumV Y))))
  have hr := num_range Y
  rw [sound_is hY] at hr
  rcases num_val hY kY with hy | hy
  · have e : asNumV (vSound (negV (asNumV Y))) = (-(asNumV Y).1, 0) := by
      unfold negV
      rw [if_neg (by omega)]
      exact vN_num (neg_good hr.2.1 hr.2.2)
    have g : goodB (asNumV Y).1 = true := by rw [goodB_iff]; exact hr.2
    rw [e]
    unfold bothV
    rw [hy]
    simp only []
    rcases num_val hX kX with hx | hx
    · rw [hx]
      show toldV (subR _ _) = toldV (addN _ _, addE _ _)
      unfold subR
      rw [if_pos g]
    · rw [hx]; rfl
  · have e : asNumV (vSound (negV (asNumV Y))) = (0, 3) := by
      unfold negV
      rw [if_pos (by omega), hy]
      kernel_rfl
    rw [e]
    unfold bothV
    rw [hy]
    rcases num_val hX kX with hx | hx
    · rw [hx]; rfl
    · rw [hx]; rfl
end Go.Proofs.YtbeijnflfmjgfaaGreatDoor

namespace Go.Proofs.YtbeijnflfmjgfaaGreatDoor
open Go.RowKit

theorem up_facts (n k : Nat) : n ≤ upP n k ∧ upP n k < n + 10 ^ k ∧ upP n k % 10 ^ k = 0 ∧ upP (upP n k) k = upP n k ∧
    (upP n k = (n / 10 ^ k + (if 10 ^ k ≤ 2 * (n % 10 ^ k) then 1 else 0)) * 10 ^ k ∨ upP n k = (n / 10 ^ k + (if 10 ^ k ≤ 2 * (n % 10 ^ k) then 1 else 0)) * 10 ^ k + 10 ^ k) := by
  have hs : 0 < 10 ^ k := Nat.pow_pos (by omega)
  unfold upP
  generalize 10 ^ k = s at hs ⊢
  have hd := Nat.div_add_mod n s
  have hm := Nat.mod_lt n hs
  generalize n / s = q at hd ⊢
  generalize n % s = r at hd hm ⊢
  have hn : n = q * s + r := by rw [Nat.mul_comm]; exact hd.symm
  clear hd
  by_cases hr : r = 0
  · subst hr
    have e := up_none n q s hs hn
    rw [e]
    refine ⟨by omega, by omega, Nat.mul_mod_left q s, up_none (q * s) q s hs rfl, Or.inl ?_⟩
    rw [if_neg (by omega), Nat.add_zero]
  · have e := up_some n q r s hn (by omega) hm
    rw [e]
    refine ⟨by rw [Nat.add_mul]; omega, by rw [Nat.add_mul]; omega, Nat.mul_mod_left (q + 1) s, up_none ((q + 1) * s) (q + 1) s hs rfl, ?_⟩
    by_cases h2 : s ≤ 2 * r
    · rw [if_pos h2]; exact Or.inl rfl
    · right
      have e0 : (q + 0) * s = q * s := by rw [Nat.add_zero]
      have e1 : (q + 1) * s = q * s + s := by rw [Nat.add_mul, Nat.one_mul]
      rw [if_neg h2, e0, e1]
def sg (a : Int) (n : Nat) : Int := if a < 0 then -(n : Int) else (n : Int)
theorem told_sg {a : Int} {n : Nat} (h : n ≤ 9000000000000000000) : toldV (sgnN (decide (a < 0)) (n : Nat), sgnE (n : Nat)) = vN (sg a n) := by
  have hs : ¬ (9000000000000000000 : Int) < (n : Nat) := by omega
  unfold sg
  simp only [sgnN, sgnE, if_neg hs]
  by_cases ha : a < 0
  · rw [if_pos ha, decide_eq_true ha]; rfl
  · rw [if_neg ha, decide_eq_false ha]; rfl
theorem sg_abs (a : Int) : sg a a.natAbs = a := by
  unfold sg
  split <;> omega
theorem up_zero (n : Nat) : upP n 0 = n := by unfold upP; simp
theorem up_is (a t : Int) (h0 : 0 ≤ t) (h4 : t ≤ 4) (h1 : -1152921504606846976 < a) (h2 : a < 1152921504606846976) : upV a t = vN (sg a (upP a.natAbs (4 - t).toNat)) := by
  unfold upV
  by_cases h3 : 3 < t
  · rw [if_pos h3, show (4 - t).toNat = 0 by omega, up_zero, sg_abs]
  · rw [if_neg h3]
    have hu := (up_facts a.natAbs (4 - t).toNat).2.1
    have hp : 10 ^ (4 - t).toNat ≤ 10 ^ 4 := Nat.pow_le_pow_right (by omega) (by omega)
    exact told_sg (by omega)
theorem rnd_is (a t : Int) (h0 : 0 ≤ t) (h4 : t ≤ 4) (h1 : -1152921504606846976 < a) (h2 : a < 1152921504606846976) :
    toldV (roundR a t) = vN (sg a ((a.natAbs / 10 ^ (4 - t).toNat + (if 10 ^ (4 - t).toNat ≤ 2 * (a.natAbs % 10 ^ (4 - t).toNat) then 1 else 0)) * 10 ^ (4 - t).toNat)) := by
  have hg : goodB a = true := by rw [goodB_iff]; omega
  unfold roundR
  rw [if_pos hg, if_neg (by omega)]
  by_cases h3 : 4 ≤ t
  · rw [if_pos h3, show (4 - t).toNat = 0 by omega]
    have e : (a.natAbs / 10 ^ 0 + (if 10 ^ 0 ≤ 2 * (a.natAbs % 10 ^ 0) then 1 else 0)) * 10 ^ 0 = a.natAbs := by
      simp [Nat.mod_one]
    rw [e, sg_abs]
    rfl
  · rw [if_neg h3]
    obtain ⟨k, hk⟩ : ∃ k, (4 - t).toNat = k := ⟨_, rfl⟩
    have hf := up_facts a.natAbs k
    have hp : 10 ^ k ≤ 10 ^ 4 := Nat.pow_le_pow_right (by omega) (by omega)
    have e : rndS a t = (a.natAbs / 10 ^ k + (if 10 ^ k ≤ 2 * (a.natAbs % 10 ^ k) then 1 else 0)) * 10 ^ k := by
      unfold rndS nrV
      rw [hk, if_pos (by unfold nrOk; exact decide_eq_true (by rw [Nat.mul_one]; have := Nat.div_le_self a.natAbs (10 ^ k); omega)), Nat.mul_one]
    rw [e, hk]
    exact told_sg (by omega)
theorem goodN_sg {a : Int} {n : Nat} (h : n ≤ 9000000000000000000) : goodB (sg a n) = true := by
  rw [goodB_iff]; unfold sg; split <;> omega
theorem rounds_calls (a t : Int) (h0 : 0 ≤ t) (h4 : t ≤ 4) (h1 : -1152921504606846976 < a) (h2 : a < 1152921504606846976) :
    ∃ U R : Int, callV [82, 79, 85, 78, 68, 85, 80] [⟨1, a, noText, false, 0⟩, ⟨1, t * 10000, noText, false, 0⟩] = ⟨1, U, noText, false, 0⟩ ∧
      callV [82, 79, 85, 78, 68] [⟨1, a, noText, false, 0⟩, ⟨1, t * 10000, noText, false, 0⟩] = ⟨1, R, noText, false, 0⟩ ∧
      callV [82, 79, 85, 78, 68, 85, 80] [⟨1, U, noText, false, 0⟩, ⟨1, t * 10000, noText, false, 0⟩] = ⟨1, U, noText, false, 0⟩ ∧
      -2000000000000000000 ≤ U ∧ U ≤ 2000000000000000000 ∧ -2000000000000000000 ≤ R ∧ R ≤ 2000000000000000000 ∧
      a.natAbs ≤ U.natAbs ∧ U.natAbs < a.natAbs + 10 ^ (4 - t).toNat ∧ U.natAbs % 10 ^ (4 - t).toNat = 0 ∧ (U = R ∨ U = R + 10 ^ (4 - t).toNat ∨ U = R - 10 ^ (4 - t).toNat) ∧ (U = 0 ∨ (decide (U < 0) = decide (a < 0))) := by
  obtain ⟨k, hk⟩ : ∃ k, (4 - t).toNat = k := ⟨_, rfl⟩
  have hf := up_facts a.natAbs k
  have hp : 10 ^ k ≤ 10 ^ 4 := Nat.pow_le_pow_right (by omega) (by omega)
  have hu := up_is a t h0 h4 h1 h2
  have hr := rnd_is a t h0 h4 h1 h2
  rw [hk] at hu hr ⊢
  obtain ⟨u, eu⟩ : ∃ u, upP a.natAbs k = u := ⟨_, rfl⟩
  obtain ⟨r, er⟩ : ∃ r, (a.natAbs / 10 ^ k + (if 10 ^ k ≤ 2 * (a.natAbs % 10 ^ k) then 1 else 0)) * 10 ^ k = r := ⟨_, rfl⟩
  rw [eu] at hf hu
  rw [er] at hf hr
  obtain ⟨f1, f2, f3, f4, f5⟩ := hf
  have gu : goodB (sg a u) = true := goodN_sg (by omega)
  have gr : goodB (sg a r) = true := goodN_sg (by omega)
  have ga : goodB a = true := by rw [goodB_iff]; omega
  have gt : goodB (t * 10000) = true := by rw [goodB_iff]; omega
  have su : (sg a u).natAbs = u := by unfold sg; split <;> omega
  have hU2 : upV (sg a u) t = vN (sg a u) := by
    have hlow : -9000000000000000000 ≤ sg a u := by unfold sg; split <;> omega
    unfold upV
    by_cases h3 : 3 < t
    · rw [if_pos h3]
    · rw [if_neg h3, su, hk, f4]
      have e1 : toldV (sgnN (decide (sg a u < 0)) (u : Nat), sgnE (u : Nat)) = vN (sg (sg a u) u) := told_sg (by omega)
      rw [e1]
      congr 1
      unfold sg
      split <;> split <;> omega
  have hv : ∀ (n : Int) (l : List UInt8), goodB n = true → takesL l = 2 → callV l [⟨1, n, noText, false, 0⟩, ⟨1, t * 10000, noText, false, 0⟩] = twoV l n (t * 10000) := by
    intro n l gn hl
    have en : asNumV (vSound ⟨1, n, noText, false, 0⟩) = (n, 0) := by rw [← good_n gn]; exact vN_num gn
    have et : asNumV (vSound ⟨1, t * 10000, noText, false, 0⟩) = (t * 10000, 0) := by rw [← good_n gt]; exact vN_num gt
    unfold callV
    rw [hl, if_neg (by omega), if_neg (by simp)]
    simp only [numsV, en, et]
    rfl
  have ht : (t * 10000).tdiv 10000 = t := by rw [Int.mul_tdiv_cancel _ (by omega)]
  have htm : (t * 10000).tmod 10000 = 0 := Int.mul_tmod_left t 10000
  have hup : ∀ n : Int, twoV [82, 79, 85, 78, 68, 85, 80] n (t * 10000) = upV n t := by
    intro n
    unfold twoV
    rw [if_pos (Or.inr rfl), if_neg (by omega), if_pos rfl, ht]
  have hrd : twoV [82, 79, 85, 78, 68] a (t * 10000) = toldV (roundR a t) := by
    unfold twoV
    rw [if_pos (Or.inl rfl), if_neg (by omega), if_neg (by decide), ht]
  refine ⟨sg a u, sg a r, ?_, ?_, ?_, ?_, ?_, ?_, ?_, by rw [su]; exact f1, by rw [su]; exact f2, by rw [su]; exact f3, ?_, ?_⟩
  · rw [hv a _ ga (by decide), hup, hu, good_n gu]
  · rw [hv a _ ga (by decide), hrd, hr, good_n gr]
  · rw [hv _ _ gu (by decide), hup, hU2, good_n gu]
  · unfold sg; split <;> omega
  · unfold sg; split <;> omega
  · unfold sg; split <;> omega
  · unfold sg; split <;> omega
  · have hc : ((10 : Int) ^ k) = ((10 ^ k : Nat) : Int) := by simp
    rw [hc]
    unfold sg
    split <;> omega
  · by_cases h : u = 0
    · left; unfold sg; split <;> omega
    · right
      unfold sg
      split
      · rename_i hneg; rw [decide_eq_true hneg, decide_eq_true (by omega)]
      · rename_i hneg; rw [decide_eq_false hneg, decide_eq_false (by omega)]
end Go.Proofs.YtbeijnflfmjgfaaGreatDoor

namespace Go.Proofs.YtbeijnflfmjgfaaGreatDoor
open Go.RowKit

theorem vl_ne (V : Vl) (w : World) :
    (binOp .neq 28 (.agg #[.int .i64 V.kind, .int .i64 V.num, .string V.text, .bool V.tr, .int .i64 V.fail]) (.agg #[.int .i64 V.kind, .int .i64 V.num, .string V.text, .bool V.tr, .int .i64 V.fail])).run Tryz.prog w = .ok (.bool false) w := by
  have he := vl_eq V.kind V.num V.text V.tr V.fail V.kind V.num V.text V.tr V.fail w
  rw [run_eql_struct, show vEq ⟨V.kind, V.num, V.text, V.tr, V.fail⟩ ⟨V.kind, V.num, V.text, V.tr, V.fail⟩ = true from by unfold vEq; simp] at he
  rw [run_neq_struct]
  generalize (Op.equalIn 10000 28 (.agg #[.int .i64 V.kind, .int .i64 V.num, .string V.text, .bool V.tr, .int .i64 V.fail]) (.agg #[.int .i64 V.kind, .int .i64 V.num, .string V.text, .bool V.tr, .int .i64 V.fail])).run Tryz.prog w = r at he ⊢
  cases r with
  | ok b w' =>
    simp only [Result.andThen, Result.ok.injEq, Value.bool.injEq] at he ⊢
    rw [he.1, he.2]
    exact ⟨rfl, rfl⟩
  | _ => simp [Result.andThen] at he
theorem vl_same (V : Vl) (w : World) :
    (binOp .eql 28 (.agg #[.int .i64 V.kind, .int .i64 V.num, .string V.text, .bool V.tr, .int .i64 V.fail]) (.agg #[.int .i64 V.kind, .int .i64 V.num, .string V.text, .bool V.tr, .int .i64 V.fail])).run Tryz.prog w = .ok (.bool true) w := by
  have he := vl_eq V.kind V.num V.text V.tr V.fail V.kind V.num V.text V.tr V.fail w
  rw [he]
  unfold vEq
  simp
end Go.Proofs.YtbeijnflfmjgfaaGreatDoor
