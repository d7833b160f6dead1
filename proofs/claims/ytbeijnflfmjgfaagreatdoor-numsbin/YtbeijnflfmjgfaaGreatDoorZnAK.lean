/- The contracts of To and Ratio. -/
import Derived.BigQuiet
import Derived.BigRegion
import Derived.Deep.CutBlock
import Derived.Deep.CutRange
import Derived.Deep.DeepFit
import Derived.Deep.QuietTactic
import Derived.Deep.RegionWith
import Derived.Laws.Bits64b
import Derived.Laws.BitsAllLaws
import Derived.Laws.FloatArith
import Derived.Laws.IdiomStrings
import Derived.Laws.Rows
import Derived.Laws.StructEq
import Derived.Lib.BitFns
import Derived.Lib.IndexBytes
import Derived.Lib.ItoaMem
import Derived.Lib.ItoaNum
import Derived.Lib.Walk
import Derived.OwnWalk
import Derived.Shelf.Bits.Mul64
import Derived.Shelf.LaysM
import Derived.Shelf.Small.Bits
import Derived.Shelf.Small.Strs
import Derived.Shelf.Small.Wraps
import Derived.Shelf.Strconv.Itoa0
import Derived.Shelf.Strconv.Itoa1
import Derived.Shelf.Strconv.Itoa2
import Derived.Shelf.Strings.AsciiSet
import Derived.Shelf.Strings.Cut
import Derived.Shelf.Strings.Prefix
import Derived.Shelf.Strings.Search1
import Derived.Shelf.Strings.Search2
import Derived.Shelf.Strings.Shaped
import Derived.Shelf.Strings.Trim
import Derived.Test.YtbeijnflfmjgfaaGreatDoorProg
import Derived.Test.YtbeijnflfmjgfaaGreatDoorRows
import Derived.WalkKit
import Derived.WalkLawsBesides
import Derived.WalkSmall
import Derived.WalkSpells
import Ieee.Arith
import Derived.Test.YtbeijnflfmjgfaaGreatDoorZnAA
import Derived.Test.YtbeijnflfmjgfaaGreatDoorZnAB
import Derived.Test.YtbeijnflfmjgfaaGreatDoorZnAD
import Derived.Test.YtbeijnflfmjgfaaGreatDoorZnAI
import Derived.Test.YtbeijnflfmjgfaaGreatDoorZnAJ
import Derived.Test.YtbeijnflfmjgfaaGreatDoorZnAC
import Derived.Test.YtbeijnflfmjgfaaGreatDoorZnAE
import Derived.Test.YtbeijnflfmjgfaaGreatDoorZnAF
import Derived.Test.YtbeijnflfmjgfaaGreatDoorZnAG
import Derived.Test.YtbeijnflfmjgfaaGreatDoorZnAH
namespace Go.Proofs.YtbeijnflfmjgfaaGreatDoor
open Go.RowKit

def toI (a : Int) : Nat := Ieee.double.nearest (decide (a < 0)) a.natAbs 0
def toF (a : Int) : Nat := (Ieee.double.div (toI a) 4666723172467343360).getD 0
theorem ofInt_eq (a : Int) : floatOfInt .f64 a = toI a := rfl

theorem toI_norm (a : Int) (h0 : a ≠ 0) (h1 : -9000000000000000000 ≤ a) (h2 : a ≤ 9000000000000000000) :
    ∃ k, toI a = Fl.wordOf (decide (a < 0)) ((a.natAbs.log2 + 1022) * 4503599627370496 + k) ∧ Fl.Kept a.natAbs k ∧ a.natAbs.log2 ≤ 62 := by
  have hl : a.natAbs.log2 < 63 := Fl.log2_lt_of (by
    have : (2 : Nat) ^ 63 = 9223372036854775808 := by decide
    omega) (by omega)
  obtain ⟨k, e, K⟩ := Fl.near_norm (decide (a < 0)) a.natAbs 0 (a.natAbs.log2 + 1022) (by omega) (by omega) (by omega)
  exact ⟨k, e, K, by omega⟩

theorem toF_norm (a : Int) (h0 : a ≠ 0) (h1 : -9000000000000000000 ≤ a) (h2 : a ≤ 9000000000000000000) :
    ∃ d k : Nat, Ieee.double.div (toI a) 4666723172467343360 = some (toF a) ∧ toF a = Fl.wordOf (decide (a < 0)) (d * 4503599627370496 + k) ∧ 4503599627370496 ≤ k ∧ k ≤ 9007199254740992 ∧ 1000 ≤ d ∧ d ≤ 1090 := by
  obtain ⟨k0, e0, K0, hl⟩ := toI_norm a h0 h1 h2
  obtain ⟨l, hll⟩ : ∃ l, a.natAbs.log2 = l := ⟨_, rfl⟩
  rw [hll] at e0 hl
  have kl := K0.low
  have kh := K0.high
  have hs : Fl.sgn (toI a) = decide (a < 0) := by rw [e0]; exact Fl.sgn_word _ _ (by omega)
  have hr : Fl.rng (toI a) = (l + 1022) * 4503599627370496 + k0 := by rw [e0]; exact Fl.rng_word _ _ (by omega)
  have hk : 1022 + l ≤ Fl.mk (Fl.rng (toI a)) ∧ Fl.mk (Fl.rng (toI a)) ≤ 1023 + l := by rw [hr]; unfold Fl.mk; omega
  have y1 : Fl.rng 4666723172467343360 = 4666723172467343360 := by decide
  have y2 : Fl.mk 4666723172467343360 = 1035 := by decide
  have y3 : Fl.sgn 4666723172467343360 = false := by decide
  obtain ⟨d, k, c, f1, f2, f3, f4, f5, f6, _, _⟩ := Fl.div_norm (toI a) 4666723172467343360 (by rw [hr]; omega) (by rw [hr]; omega) (by rw [y1]; decide) (by rw [y1]; decide) (by rw [y1, y2]; omega) (by rw [y1, y2]; omega)
  rw [hs, y3, Bool.xor_false] at f1
  rw [y1, y2] at f6
  refine ⟨d, k, ?_, ?_, f2, f3, by omega, by omega⟩
  · unfold toF; rw [f1]; rfl
  · unfold toF; rw [f1]; rfl
theorem toF_zero : toF 0 = 0 := by decide +kernel
theorem toF_some (a : Int) (h1 : -9000000000000000000 ≤ a) (h2 : a ≤ 9000000000000000000) : Ieee.double.div (toI a) 4666723172467343360 = some (toF a) := by
  by_cases h0 : a = 0
  · subst h0; decide +kernel
  · obtain ⟨_, _, e, _⟩ := toF_norm a h0 h1 h2; exact e

def goodN (a : Int) : Int := if goodB a = true then a else 0
theorem goodN_le (a : Int) : -9000000000000000000 ≤ goodN a ∧ goodN a ≤ 9000000000000000000 := by
  unfold goodN
  by_cases h : goodB a = true
  · rw [if_pos h]; exact (goodB_iff a).1 h
  · rw [if_neg h]; omega
def toV (a : Int) : Nat := toF (goodN a)

theorem und33 : (Tryz.prog.underlying 25).isSome = true := by rw [Tryz.underlying25]; rfl
set_option maxHeartbeats 400000 in
theorem to_any (a : Int) (w : World) :
    Calls Tryz.prog 173 #[.int .i64 a] w fun e w' => e = .returned (.float .f64 (toV a)) ∧ Below w.heap.size w w' := by
  obtain ⟨g, hg⟩ : ∃ g, goodN a = g := ⟨_, rfl⟩
  have hb := goodN_le a
  rw [hg] at hb
  have HR : Hid (∀ w, Calls Tryz.prog 56 #[.int .i64 a] w fun e w' => ∃ q, e = .returned (.tuple #[.int .i64 g, .int .i64 q]) ∧ Below w.heap.size w w') := hide (fun w => (raw_any a w).mono (by
    rintro e w' ⟨rfl, hb⟩
    exact ⟨_, by rw [← hg]; rfl, hb⟩))
  have ht : toV a = toF g := by unfold toV; rw [hg]
  rw [ht]
  have HS := hide (toF_some g hb.1 hb.2)
  clear hg ht hb
  go_enter Tryz.func173, Tryz.ntmps173
  go_wp2_with fail
  refine (unhide HR _).mono ?_
  rintro e w1 ⟨q, rfl, b1⟩
  have e1 := run_convert_int_float (P := Tryz.prog) w1 25 119 .i64 .f64 g und33 Tryz.underlying119
  rw [ofInt_eq] at e1
  have e2 := run_float_arith (P := Tryz.prog) w1 .quo 119 .f64 (toI g) 4666723172467343360 (toF g) (unhide HS)
  go_wp2
  go_ret
  exact ⟨rfl, b1⟩
end Go.Proofs.YtbeijnflfmjgfaaGreatDoor

namespace Go.Proofs.YtbeijnflfmjgfaaGreatDoor
open Go.RowKit

def ratC (a b : Int) : Int :=
  if b = 0 then (if a = 0 then 0 else if a < 0 then 1 else 6) else if a = 0 then (if b < 0 then 3 else 4) else if decide (a < 0) = decide (b < 0) then 5 else 2

theorem cls_word (s : Bool) (r : Nat) (h : r < 9223372036854775808) : clsV (Fl.wordOf s r) =
    (if 9218868437227405312 < r then 0 else if r = 9218868437227405312 then (if s = true then 1 else 6) else if r = 0 then (if s = true then 3 else 4) else if s = true then 2 else 5) := by
  unfold clsV
  rw [Fl.sgn_word s r h, Fl.rng_word s r h]

theorem quo_both (a b : Int) (a0 : a ≠ 0) (b0 : b ≠ 0) (a1 : -9000000000000000000 ≤ a) (a2 : a ≤ 9000000000000000000) (b1 : -9000000000000000000 ≤ b) (b2 : b ≤ 9000000000000000000) :
    ∃ r, Ieee.double.div (toF a) (toF b) = some r ∧ r < 18446744073709551616 ∧ clsV r = ratC a b := by
  obtain ⟨d, k, _, e, k1, k2, d1, d2⟩ := toF_norm a a0 a1 a2
  obtain ⟨d', k', _, e', k1', k2', d1', d2'⟩ := toF_norm b b0 b1 b2
  have r1 : Fl.rng (toF a) = d * 4503599627370496 + k := by rw [e]; exact Fl.rng_word _ _ (by omega)
  have r2 : Fl.rng (toF b) = d' * 4503599627370496 + k' := by rw [e']; exact Fl.rng_word _ _ (by omega)
  have s1 : Fl.sgn (toF a) = decide (a < 0) := by rw [e]; exact Fl.sgn_word _ _ (by omega)
  have s2 : Fl.sgn (toF b) = decide (b < 0) := by rw [e']; exact Fl.sgn_word _ _ (by omega)
  have m1 : d ≤ Fl.mk (Fl.rng (toF a)) ∧ Fl.mk (Fl.rng (toF a)) ≤ d + 1 := by rw [r1]; unfold Fl.mk; omega
  have m2 : d' ≤ Fl.mk (Fl.rng (toF b)) ∧ Fl.mk (Fl.rng (toF b)) ≤ d' + 1 := by rw [r2]; unfold Fl.mk; omega
  obtain ⟨D, K, c, f1, f2, f3, f4, f5, f6, _, _⟩ := Fl.div_norm (toF a) (toF b) (by rw [r1]; omega) (by rw [r1]; omega) (by rw [r2]; omega) (by rw [r2]; omega) (by omega) (by omega)
  rw [s1, s2] at f1
  have hD : D ≤ 1200 := by omega
  refine ⟨_, f1, Fl.word_lt _ _ (by omega), ?_⟩
  rw [cls_word _ _ (by omega), if_neg (by omega), if_neg (by omega), if_neg (by omega)]
  unfold ratC
  rw [if_neg b0, if_neg a0]
  cases decide (a < 0) <;> cases decide (b < 0) <;> rfl
theorem toF_pos (a : Int) (a0 : a ≠ 0) (a1 : -9000000000000000000 ≤ a) (a2 : a ≤ 9000000000000000000) : Fl.rng (toF a) < 9218868437227405312 ∧ Fl.mm (Fl.rng (toF a)) ≠ 0 ∧ Fl.sgn (toF a) = decide (a < 0) := by
  obtain ⟨d, k, _, e, k1, k2, d1, d2⟩ := toF_norm a a0 a1 a2
  have r1 : Fl.rng (toF a) = d * 4503599627370496 + k := by rw [e]; exact Fl.rng_word _ _ (by omega)
  have s1 : Fl.sgn (toF a) = decide (a < 0) := by rw [e]; exact Fl.sgn_word _ _ (by omega)
  have := Fl.mm_ge (Fl.rng (toF a)) (by rw [r1]; omega)
  exact ⟨by rw [r1]; omega, by omega, s1⟩
theorem quo_low (b : Int) (b0 : b ≠ 0) (b1 : -9000000000000000000 ≤ b) (b2 : b ≤ 9000000000000000000) :
    ∃ r, Ieee.double.div (toF 0) (toF b) = some r ∧ r < 18446744073709551616 ∧ clsV r = ratC 0 b := by
  obtain ⟨h1, h2, h3⟩ := toF_pos b b0 b1 b2
  refine ⟨Fl.wordOf (decide (b < 0)) 0, ?_, Fl.word_lt _ _ (by decide), ?_⟩
  · rw [toF_zero]
    unfold Ieee.Format.div
    rw [Fl.read_fin 0 (by decide), Fl.read_fin (toF b) h1, h3, show Fl.sgn 0 = false from by decide, show Fl.mm (Fl.rng 0) = 0 from by decide]
    generalize Fl.mm (Fl.rng (toF b)) = n at *
    generalize Fl.mk (Fl.rng (toF b)) = j
    generalize Fl.mk (Fl.rng 0) = i
    show ((if n = 0 then (if (0 : Nat) = 0 then none else some (Ieee.Datum.infinity (false ^^ decide (b < 0)))) else some (Ieee.Datum.number (false ^^ decide (b < 0)) (2 * (0 <<< (Ieee.double.fractionBits + 2 + n.log2 - (0 : Nat).log2) / n) + (0 <<< (Ieee.double.fractionBits + 2 + n.log2 - (0 : Nat).log2) % n != 0).toNat) ((-1074 + (i : Int)) - (-1074 + (j : Int)) - ((Ieee.double.fractionBits + 2 + n.log2 - (0 : Nat).log2 : Nat) : Int) - 1))).map Ieee.double.write) = _
    rw [if_neg h2, Nat.zero_shiftLeft, Nat.zero_div, Nat.zero_mod]
    show some (Ieee.double.nearest (false ^^ decide (b < 0)) (2 * 0 + 0) _) = _
    unfold Ieee.Format.nearest
    rw [if_pos rfl, Bool.false_xor]
    refine congrArg some ?_
    unfold Ieee.Format.word Fl.wordOf
    rw [Fl.sw]
  · rw [cls_word _ _ (by decide), if_neg (by decide), if_neg (by decide), if_pos rfl]
    unfold ratC
    rw [if_neg b0, if_pos rfl]
    by_cases h : b < 0
    · rw [decide_eq_true h, if_pos rfl, if_pos h]
    · rw [decide_eq_false h, if_neg (by decide), if_neg h]
theorem quot_inf (g : Nat) (s t : Bool) (m : Nat) (i j : Int) (h : m ≠ 0) : Ieee.Datum.quotient g (.number s m i) (.number t 0 j) = some (.infinity (s ^^ t)) := by
  unfold Ieee.Datum.quotient; simp [h]
theorem quo_high (a : Int) (a0 : a ≠ 0) (a1 : -9000000000000000000 ≤ a) (a2 : a ≤ 9000000000000000000) :
    ∃ r, Ieee.double.div (toF a) (toF 0) = some r ∧ r < 18446744073709551616 ∧ clsV r = ratC a 0 := by
  obtain ⟨h1, h2, h3⟩ := toF_pos a a0 a1 a2
  refine ⟨Fl.wordOf (decide (a < 0)) 9218868437227405312, ?_, Fl.word_lt _ _ (by decide), ?_⟩
  · rw [toF_zero]
    unfold Ieee.Format.div
    rw [Fl.read_fin 0 (by decide), Fl.read_fin (toF a) h1, h3, show Fl.sgn 0 = false from by decide, show Fl.mm (Fl.rng 0) = 0 from by decide]
    generalize Fl.mm (Fl.rng (toF a)) = m at *
    rw [quot_inf _ _ _ _ _ _ h2, Bool.xor_false]
    show some (Ieee.double.word (decide (a < 0)) Ieee.double.infRung) = _
    refine congrArg some ?_
    unfold Ieee.Format.word Fl.wordOf
    rw [Fl.sw, Fl.ir]
  · rw [cls_word _ _ (by decide), if_neg (by decide), if_pos rfl]
    unfold ratC
    rw [if_pos rfl, if_neg a0]
    by_cases h : a < 0
    · rw [decide_eq_true h, if_pos rfl, if_pos h]
    · rw [decide_eq_false h, if_neg (by decide), if_neg h]
theorem quo_none : Ieee.double.div 0 0 = none := by decide +kernel
theorem run_nan (w : World) : ∃ n, n < 18446744073709551616 ∧ 9218868437227405312 < Fl.rng n ∧ (binOp .quo 119 (.float .f64 0) (.float .f64 0)).run Tryz.prog w = .ok (.float .f64 n) w.drew := by
  obtain ⟨t, ht⟩ : ∃ t, w.tape w.drawn (.nanBits .f64 0 0) = t := ⟨_, rfl⟩
  refine ⟨(Question.nanBits .f64 0 0).cut t, ?_, ?_, ?_⟩
  · show (t % 2) * 2 ^ 63 + 0x7ff0000000000000 + 1 + (t / 2) % (2 ^ 52 - 1) < _
    omega
  · show 9218868437227405312 < ((t % 2) * 2 ^ 63 + 0x7ff0000000000000 + 1 + (t / 2) % (2 ^ 52 - 1)) % 9223372036854775808
    generalize t / 2 = u
    have h : t % 2 = 0 ∨ t % 2 = 1 := by omega
    rcases h with h | h <;> rw [h] <;> omega
  · rw [← ht]
    have e : FloatKind.f64.format.div 0 0 = none := quo_none
    simp only [binOp, Op.floatArith, e]
    rfl
end Go.Proofs.YtbeijnflfmjgfaaGreatDoor

namespace Go.Proofs.YtbeijnflfmjgfaaGreatDoor
open Go.RowKit

def ratW (a b : Int) : Nat := (Ieee.double.div (toF a) (toF b)).getD 0
def ratV (a b : Int) : Vl := if b = 0 then vE 1 else toldV (frN (ratW a b), frE (ratW a b))
def twoV (s : List UInt8) (a b : Int) : Vl :=
  if s = [82, 79, 85, 78, 68] ∨ s = [82, 79, 85, 78, 68, 85, 80] then
    (if b.tmod 10000 ≠ 0 ∨ b < -150000 ∨ 150000 < b then vE 2 else if s = [82, 79, 85, 78, 68, 85, 80] then upV a (b.tdiv 10000) else toldV (roundR a (b.tdiv 10000)))
  else if s = [77, 79, 68] then toldV (modR a b)
  else if s = [81, 85, 79, 84, 73, 69, 78, 84] then quoV a b
  else if s = [80, 79, 87, 69, 82] then powV a b
  else if s = [71, 67, 68] then gcdV a b
  else ratV a b

end Go.Proofs.YtbeijnflfmjgfaaGreatDoor

namespace Go.Proofs.YtbeijnflfmjgfaaGreatDoor
open Go.RowKit

theorem infoVal : (Tryz.prog.info? 28).map (·.size) = some 5 := by kernel_rfl

set_option maxHeartbeats 1000000 in
theorem e_val (f : Int) (w : World) :
    Calls Tryz.prog 57 #[.int .i64 f] w fun e w' => e = .returned (.agg (vE f).cells) ∧ Below w.heap.size w w' := by
  unfold vE Vl.cells
  by_cases h1 : f ≤ 0
  · rw [if_pos (Or.inl (by omega))]
    go_enter Tryz.func57, Tryz.ntmps57
    go_wp2
    refine bodyPost_ret (results_cell_row rfl _ _ _ _ _ _ _ rfl (heap_alloc_new _ _) Tryz.underlying28 rfl infoVal) rfl ?_
    exact ⟨rfl, (Below.refl _ _).alloc (Nat.le_refl _) _⟩
  · by_cases h2 : 9 ≤ f
    · rw [if_pos (Or.inr (by omega))]
      go_enter Tryz.func57, Tryz.ntmps57
      go_wp2
      refine bodyPost_ret (results_cell_row rfl _ _ _ _ _ _ _ rfl (heap_alloc_new _ _) Tryz.underlying28 rfl infoVal) rfl ?_
      exact ⟨rfl, (Below.refl _ _).alloc (Nat.le_refl _) _⟩
    · rw [if_neg (by omega)]
      have d2 : decide (9 ≤ f) = false := decide_eq_false h2
      go_enter Tryz.func57, Tryz.ntmps57
      go_wp2
      refine bodyPost_ret (results_cell_row rfl _ _ _ _ _ _ _ rfl (heap_alloc_new _ _) Tryz.underlying28 rfl infoVal) rfl ?_
      exact ⟨rfl, (Below.refl _ _).alloc (Nat.le_refl _) _⟩

set_option maxHeartbeats 1000000 in
theorem b_val (b : Bool) (w : World) :
    Calls Tryz.prog 59 #[.bool b] w fun e w' => e = .returned (.agg (vB b).cells) ∧ Below w.heap.size w w' := by
  unfold vB Vl.cells
  go_enter Tryz.func59, Tryz.ntmps59
  go_wp2
  refine bodyPost_ret (results_cell_row rfl _ _ _ _ _ _ _ rfl (heap_alloc_new _ _) Tryz.underlying28 rfl infoVal) rfl ?_
  exact ⟨rfl, (Below.refl _ _).alloc (Nat.le_refl _) _⟩
set_option maxHeartbeats 2000000 in
theorem n_val (n : Int) (w : World) :
    Calls Tryz.prog 25 #[.int .i64 n] w fun e w' => e = .returned (.agg (vN n).cells) ∧ Below w.heap.size w w' := by
  have HR := hide (fun w => raw_any n w)
  unfold vN
  cases hg : goodB n
  · rw [hg] at HR
    clear hg
    go_enter Tryz.func25, Tryz.ntmps25
    go_wp2_with fail
    refine (unhide HR _).mono ?_
    rintro e w1 ⟨rfl, b1⟩
    have HF := hide (five_below (five_new w 28 _ _ _ _ _) b1 (by simp))
    have HB := hide ((below_al w _).trans (b1.mono (by simp)))
    clear b1
    go_wp2_with fail
    refine (e_val 2 _).mono ?_
    rintro e w2 ⟨rfl, b2⟩
    replace HF := hide (five_below (unhide HF) b2 (five_lt (unhide HF)))
    replace HB := hide (below_nx (unhide HB) b2)
    clear b2
    unfold vE Vl.cells
    have hf := unhide HF
    obtain ⟨x0, c0⟩ := five_c hf 0 (by omega)
    obtain ⟨x1, c1⟩ := five_c hf 1 (by omega)
    obtain ⟨x2, c2⟩ := five_c hf 2 (by omega)
    obtain ⟨x3, c3⟩ := five_c hf 3 (by omega)
    obtain ⟨x4, c4⟩ := five_c hf 4 (by omega)
    have f0 := five_f hf 0
    have f1 := five_f hf 1
    have f2 := five_f hf 2
    have f3 := five_f hf 3
    have f4 := five_f hf 4
    clear hf
    go_wp2
    refine bodyPost_ret (results_cell_row rfl _ _ _ _ _ _ _ rfl (five_set (unhide HF) _ _ _ _ _).1 Tryz.underlying28 rfl infoVal) rfl ?_
    exact ⟨rfl, below_five (unhide HB) (Nat.le_refl _) _ _ _ _ _⟩
  · rw [hg] at HR
    clear hg
    unfold Vl.cells
    go_enter Tryz.func25, Tryz.ntmps25
    go_wp2_with fail
    refine (unhide HR _).mono ?_
    rintro e w1 ⟨rfl, b1⟩
    have HF := hide (five_below (five_new w 28 _ _ _ _ _) b1 (by simp))
    have HB := hide ((below_al w _).trans (b1.mono (by simp)))
    clear b1
    have hf := unhide HF
    obtain ⟨x0, c0⟩ := five_c hf 0 (by omega)
    obtain ⟨x1, c1⟩ := five_c hf 1 (by omega)
    obtain ⟨x2, c2⟩ := five_c hf 2 (by omega)
    obtain ⟨x3, c3⟩ := five_c hf 3 (by omega)
    obtain ⟨x4, c4⟩ := five_c hf 4 (by omega)
    have f0 := five_f hf 0
    have f1 := five_f hf 1
    have f2 := five_f hf 2
    have f3 := five_f hf 3
    have f4 := five_f hf 4
    clear hf
    go_wp2
    refine bodyPost_ret (results_cell_row rfl _ _ _ _ _ _ _ rfl (five_set (unhide HF) _ _ _ _ _).1 Tryz.underlying28 rfl infoVal) rfl ?_
    exact ⟨rfl, below_five (unhide HB) (Nat.le_refl _) _ _ _ _ _⟩

set_option maxHeartbeats 2000000 in
theorem t_val (s : ByteArray) (w : World) (hs : s.size ≤ 1000000) :
    Calls Tryz.prog 58 #[.string s] w fun e w' => e = .returned (.agg (vT s).cells) ∧ Below w.heap.size w w' := by
  unfold vT
  by_cases hl : 255 < s.size
  · rw [if_pos hl]
    have hi : 255 < (s.size : Int) := by omega
    clear hl
    go_enter Tryz.func58, Tryz.ntmps58
    go_wp2_with fail
    refine (e_val 3 _).mono ?_
    rintro e w1 ⟨rfl, b1⟩
    have HF := hide (five_below (five_new w 28 _ _ _ _ _) b1 (by simp))
    have HB := hide ((below_al w _).trans (b1.mono (by simp)))
    clear b1
    unfold vE Vl.cells
    have hf := unhide HF
    obtain ⟨x0, c0⟩ := five_c hf 0 (by omega)
    obtain ⟨x1, c1⟩ := five_c hf 1 (by omega)
    obtain ⟨x2, c2⟩ := five_c hf 2 (by omega)
    obtain ⟨x3, c3⟩ := five_c hf 3 (by omega)
    obtain ⟨x4, c4⟩ := five_c hf 4 (by omega)
    have f0 := five_f hf 0
    have f1 := five_f hf 1
    have f2 := five_f hf 2
    have f3 := five_f hf 3
    have f4 := five_f hf 4
    clear hf
    go_wp2
    refine bodyPost_ret (results_cell_row rfl _ _ _ _ _ _ _ rfl (five_set (unhide HF) _ _ _ _ _).1 Tryz.underlying28 rfl infoVal) rfl ?_
    exact ⟨rfl, below_five (unhide HB) (Nat.le_refl _) _ _ _ _ _⟩
  · rw [if_neg hl]
    have hi : (s.size : Int) ≤ 255 := by omega
    clear hl
    unfold Vl.cells
    go_enter Tryz.func58, Tryz.ntmps58
    go_wp2
    refine bodyPost_ret (results_cell_row rfl _ _ _ _ _ _ _ rfl (heap_alloc_new _ _) Tryz.underlying28 rfl infoVal) rfl ?_
    exact ⟨rfl, below_al _ _⟩
end Go.Proofs.YtbeijnflfmjgfaaGreatDoor

namespace Go.Proofs.YtbeijnflfmjgfaaGreatDoor
open Go.RowKit

def vEq (a b : Vl) : Bool := (a.kind == b.kind) && ((a.num == b.num) && ((a.text.toList == b.text.toList) && ((a.tr == b.tr) && (a.fail == b.fail))))

theorem vl_eq (k n : Int) (s : ByteArray) (b : Bool) (f : Int) (k' n' : Int) (s' : ByteArray) (b' : Bool) (f' : Int) (w : World) :
    (binOp .eql 28 (.agg #[.int .i64 k, .int .i64 n, .string s, .bool b, .int .i64 f]) (.agg #[.int .i64 k', .int .i64 n', .string s', .bool b', .int .i64 f'])).run Tryz.prog w
      = .ok (.bool (vEq ⟨k, n, s, b, f⟩ ⟨k', n', s', b', f'⟩)) w := by
  have hS : Tryz.prog.underlying 28 = some (.struct (Tryz.prog.fieldsOf 28)) := by kernel_rfl
  have hp : Tryz.prog.stoodInHeld 28 = false := by kernel_rfl
  have u1 := Tryz.underlying24
  have u2 := Tryz.underlying25
  have u3 := Tryz.underlying9
  have u4 := Tryz.underlying4
  have u5 := Tryz.underlying26
  have a1 := Tryz.isAgg24
  have a2 := Tryz.isAgg25
  have a3 := Tryz.isAgg9
  have a4 := Tryz.isAgg4
  have a5 := Tryz.isAgg26
  have z1 := Tryz.sizeOf24
  have z2 := Tryz.sizeOf25
  have z3 := Tryz.sizeOf9
  have z4 := Tryz.sizeOf4
  have z5 := Tryz.sizeOf26
  rw [run_eql_struct, show (10000 : Nat) = 9999 + 1 from rfl, run_equalIn_agg w 9999 28 _ _ hS hp]
  simp only [Program.fieldsOf, Tryz.underlying28]
  go_simp
  unfold vEq
  by_cases h1 : k = k'
  · by_cases h2 : n = n'
    · by_cases h3 : s.toList = s'.toList
      · by_cases h4 : b = b'
        · by_cases h5 : f = f'
          · simp [h1, h2, h3, h4, h5]
          · simp [h1, h2, h3, h4, h5]
        · simp [h1, h2, h3, h4]
      · simp [h1, h2, h3]
    · simp [h1, h2]
  · simp [h1]
end Go.Proofs.YtbeijnflfmjgfaaGreatDoor

namespace Go.Proofs.YtbeijnflfmjgfaaGreatDoor
open Go.RowKit


theorem five_cells {w : World} {B : Nat} {t : TypeId} {a b c d e : Value} (h : FiveAt w B t #[a, b, c, d, e]) :
    w.cell? ⟨B, 0, none⟩ = some a ∧ w.cell? ⟨B, 1, none⟩ = some b ∧ w.cell? ⟨B, 2, none⟩ = some c ∧ w.cell? ⟨B, 3, none⟩ = some d ∧ w.cell? ⟨B, 4, none⟩ = some e := by
  simp [World.cell?, h.1]

theorem five_drew {w : World} {B : Nat} {t : TypeId} {cs : Array Value} (h : FiveAt w B t cs) : FiveAt w.drew B t cs := h
theorem noText_list : noText.toList = [] := by rw [ByteArray.toList_eq]
theorem vGood0 (n : Int) (s : ByteArray) (b : Bool) (f : Int) : vGood ⟨0, n, s, b, f⟩ = ((n == 0) && (s.toList == []) && !b && (f == 0)) := rfl
theorem vGood1 (n : Int) (s : ByteArray) (b : Bool) (f : Int) : vGood ⟨1, n, s, b, f⟩ = (goodB n && (s.toList == []) && !b && (f == 0)) := rfl
theorem vGood2 (n : Int) (s : ByteArray) (b : Bool) (f : Int) : vGood ⟨2, n, s, b, f⟩ = ((n == 0) && decide (s.size ≤ 255) && !b && (f == 0)) := rfl
theorem vGood3 (n : Int) (s : ByteArray) (b : Bool) (f : Int) : vGood ⟨3, n, s, b, f⟩ = ((n == 0) && (s.toList == []) && (f == 0)) := rfl
theorem vGood4 (n : Int) (s : ByteArray) (b : Bool) (f : Int) : vGood ⟨4, n, s, b, f⟩ = ((n == 0) && (s.toList == []) && !b && decide (1 ≤ f) && decide (f ≤ 8)) := rfl
theorem vEq_mk (k n : Int) (s : ByteArray) (b : Bool) (f : Int) (k' n' : Int) (s' : ByteArray) (b' : Bool) (f' : Int) :
    vEq ⟨k, n, s, b, f⟩ ⟨k', n', s', b', f'⟩ = ((k == k') && ((n == n') && ((s.toList == s'.toList) && ((b == b') && (f == f'))))) := rfl
theorem vE_out (f : Int) (h : f < 1 ∨ 8 < f) : vE f = ⟨4, 0, noText, false, 3⟩ := by unfold vE; rw [if_pos h]
theorem vE_in (f : Int) (h : ¬ (f < 1 ∨ 8 < f)) : vE f = ⟨4, 0, noText, false, f⟩ := by unfold vE; rw [if_neg h]
theorem eq_blank (n : Int) (s : ByteArray) (b : Bool) (f : Int) : vEq ⟨0, n, s, b, f⟩ ⟨0, 0, noText, false, 0⟩ = vGood ⟨0, n, s, b, f⟩ := by
  rw [vGood0, vEq_mk, noText_list]
  cases b <;> simp [Bool.and_assoc]
theorem eq_num (n : Int) (s : ByteArray) (b : Bool) (f : Int) : vEq ⟨1, n, s, b, f⟩ (vN n) = vGood ⟨1, n, s, b, f⟩ := by
  rw [vGood1]
  unfold vN
  cases hg : goodB n
  · rw [if_neg (by simp), vE_in 2 (by omega), vEq_mk]; rfl
  · rw [if_pos rfl, vEq_mk, noText_list]; cases b <;> simp
theorem eq_text (n : Int) (s : ByteArray) (b : Bool) (f : Int) : vEq ⟨2, n, s, b, f⟩ (vT s) = vGood ⟨2, n, s, b, f⟩ := by
  rw [vGood2]
  unfold vT
  by_cases h : 255 < s.size
  · rw [if_pos h, show decide (s.size ≤ 255) = false from decide_eq_false (by omega), vE_in 3 (by omega), vEq_mk]; simp
  · rw [if_neg h, show decide (s.size ≤ 255) = true from decide_eq_true (by omega), vEq_mk]; cases b <;> simp
theorem eq_bool (n : Int) (s : ByteArray) (b : Bool) (f : Int) : vEq ⟨3, n, s, b, f⟩ (vB b) = vGood ⟨3, n, s, b, f⟩ := by
  rw [vGood3]
  unfold vB
  rw [vEq_mk, noText_list]
  cases b <;> simp [Bool.and_assoc]
theorem eq_err (n : Int) (s : ByteArray) (b : Bool) (f : Int) : vEq ⟨4, n, s, b, f⟩ (vE f) = vGood ⟨4, n, s, b, f⟩ := by
  rw [vGood4]
  by_cases h : f < 1 ∨ 8 < f
  · have h3 : (f == 3) = false := by rw [beq_eq_false_iff_ne]; omega
    rw [vE_out f h, vEq_mk, h3, noText_list]
    rcases h with h | h
    · rw [show decide (1 ≤ f) = false from decide_eq_false (by omega)]; cases b <;> simp
    · rw [show decide (f ≤ 8) = false from decide_eq_false (by omega)]; cases b <;> simp
  · rw [vE_in f h, vEq_mk, noText_list, show decide (1 ≤ f) = true from decide_eq_true (by omega), show decide (f ≤ 8) = true from decide_eq_true (by omega)]
    cases b <;> simp
theorem good_else (k n : Int) (s : ByteArray) (b : Bool) (f : Int) (h0 : k ≠ 0) (h1 : k ≠ 1) (h2 : k ≠ 2) (h3 : k ≠ 3) (h4 : k ≠ 4) : vGood ⟨k, n, s, b, f⟩ = false := by
  unfold vGood
  rw [if_neg h0, if_neg h1, if_neg h2, if_neg h3, if_neg h4]

set_option maxHeartbeats 4000000 in
theorem good3_val (v : Vl) (w : World) (hs : v.text.size ≤ 1000000) :
    Calls Tryz.prog 27 #[.agg v.cells] w fun e w' => e = .returned (.bool (vGood v)) ∧ Below w.heap.size w w' := by
  obtain ⟨k, n, s, b, f⟩ := v
  simp only [] at hs
  have HS := hide hs
  clear hs
  unfold Vl.cells
  simp only []
  by_cases k0 : k = 0
  · subst k0
    rw [← eq_blank]
    have hq := fun w => vl_eq 0 n s b f 0 0 noText false 0 w
    go_enter Tryz.func27, Tryz.ntmps27
    go_wp2
    go_ret
    exact ⟨rfl, below_al _ _⟩
  · have kb0 : (k == 0) = false := by rw [beq_eq_false_iff_ne]; exact k0
    by_cases k1 : k = 1
    · subst k1
      clear kb0 k0
      rw [← eq_num]
      obtain ⟨z, hz⟩ : ∃ z, vN n = z := ⟨_, rfl⟩
      have HC : Hid (∀ w : World, Calls Tryz.prog 25 #[.int .i64 n] w fun e w' => e = .returned (.agg z.cells) ∧ Below w.heap.size w w') := hide (fun w => by have h := n_val n w; rw [hz] at h; exact h)
      rw [hz]
      clear hz
      obtain ⟨k1, n1, s1, t1, f1⟩ := z
      unfold Vl.cells at HC
      simp only [] at HC
      have hq := fun w => vl_eq 1 n s b f k1 n1 s1 t1 f1 w
      go_enter Tryz.func27, Tryz.ntmps27
      go_wp2_with fail
      go_region_with (go_at_call 25; refine (unhide HC _).mono ?_; rintro e w1 ⟨rfl, b1⟩; have hc := five_below (five_drew (five_new w 28 (.int .i64 1) (.int .i64 n) (.string s) (.bool b) (.int .i64 f))) b1 (by show _ < (w.heap.push _).size; simp); obtain ⟨c0, c1, c2, c3, c4⟩ := five_cells hc; have HB := hide (below_nx (below_al w _).drew b1); clear hc b1)
      all_goals (try go_wp2_with fail)
      all_goals go_ret
      all_goals exact ⟨rfl, unhide HB⟩
    · have kb1 : (k == 1) = false := by rw [beq_eq_false_iff_ne]; exact k1
      by_cases k2 : k = 2
      · subst k2
        clear kb0 k0
        clear kb1 k1
        rw [← eq_text]
        obtain ⟨z, hz⟩ : ∃ z, vT s = z := ⟨_, rfl⟩
        have HC : Hid (∀ w : World, Calls Tryz.prog 58 #[.string s] w fun e w' => e = .returned (.agg z.cells) ∧ Below w.heap.size w w') := hide (fun w => by have h := t_val s w (unhide HS); rw [hz] at h; exact h)
        rw [hz]
        clear hz
        obtain ⟨k1, n1, s1, t1, f1⟩ := z
        unfold Vl.cells at HC
        simp only [] at HC
        have hq := fun w => vl_eq 2 n s b f k1 n1 s1 t1 f1 w
        go_enter Tryz.func27, Tryz.ntmps27
        go_wp2_with fail
        go_region_with (go_at_call 58; refine (unhide HC _).mono ?_; rintro e w1 ⟨rfl, b1⟩; have hc := five_below (five_drew (five_new w 28 (.int .i64 2) (.int .i64 n) (.string s) (.bool b) (.int .i64 f))) b1 (by show _ < (w.heap.push _).size; simp); obtain ⟨c0, c1, c2, c3, c4⟩ := five_cells hc; have HB := hide (below_nx (below_al w _).drew b1); clear hc b1)
        all_goals (try go_wp2_with fail)
        all_goals go_ret
        all_goals exact ⟨rfl, unhide HB⟩
      · have kb2 : (k == 2) = false := by rw [beq_eq_false_iff_ne]; exact k2
        by_cases k3 : k = 3
        · subst k3
          clear kb0 k0
          clear kb1 k1
          clear kb2 k2
          rw [← eq_bool]
          obtain ⟨z, hz⟩ : ∃ z, vB b = z := ⟨_, rfl⟩
          have HC : Hid (∀ w : World, Calls Tryz.prog 59 #[.bool b] w fun e w' => e = .returned (.agg z.cells) ∧ Below w.heap.size w w') := hide (fun w => by have h := b_val b w; rw [hz] at h; exact h)
          rw [hz]
          clear hz
          obtain ⟨k1, n1, s1, t1, f1⟩ := z
          unfold Vl.cells at HC
          simp only [] at HC
          have hq := fun w => vl_eq 3 n s b f k1 n1 s1 t1 f1 w
          go_enter Tryz.func27, Tryz.ntmps27
          go_wp2_with fail
          go_region_with (go_at_call 59; refine (unhide HC _).mono ?_; rintro e w1 ⟨rfl, b1⟩; have hc := five_below (five_drew (five_new w 28 (.int .i64 3) (.int .i64 n) (.string s) (.bool b) (.int .i64 f))) b1 (by show _ < (w.heap.push _).size; simp); obtain ⟨c0, c1, c2, c3, c4⟩ := five_cells hc; have HB := hide (below_nx (below_al w _).drew b1); clear hc b1)
          all_goals (try go_wp2_with fail)
          all_goals go_ret
          all_goals exact ⟨rfl, unhide HB⟩
        · have kb3 : (k == 3) = false := by rw [beq_eq_false_iff_ne]; exact k3
          by_cases k4 : k = 4
          · subst k4
            clear kb0 k0
            clear kb1 k1
            clear kb2 k2
            clear kb3 k3
            rw [← eq_err]
            obtain ⟨z, hz⟩ : ∃ z, vE f = z := ⟨_, rfl⟩
            have HC : Hid (∀ w : World, Calls Tryz.prog 57 #[.int .i64 f] w fun e w' => e = .returned (.agg z.cells) ∧ Below w.heap.size w w') := hide (fun w => by have h := e_val f w; rw [hz] at h; exact h)
            rw [hz]
            clear hz
            obtain ⟨k1, n1, s1, t1, f1⟩ := z
            unfold Vl.cells at HC
            simp only [] at HC
            have hq := fun w => vl_eq 4 n s b f k1 n1 s1 t1 f1 w
            go_enter Tryz.func27, Tryz.ntmps27
            go_wp2_with fail
            go_region_with (go_at_call 57; refine (unhide HC _).mono ?_; rintro e w1 ⟨rfl, b1⟩; have hc := five_below (five_drew (five_new w 28 (.int .i64 4) (.int .i64 n) (.string s) (.bool b) (.int .i64 f))) b1 (by show _ < (w.heap.push _).size; simp); obtain ⟨c0, c1, c2, c3, c4⟩ := five_cells hc; have HB := hide (below_nx (below_al w _).drew b1); clear hc b1)
            all_goals (try go_wp2_with fail)
            all_goals go_ret
            all_goals exact ⟨rfl, unhide HB⟩
          · have kb4 : (k == 4) = false := by rw [beq_eq_false_iff_ne]; exact k4
            rw [good_else k n s b f k0 k1 k2 k3 k4]
            clear k0 k1 k2 k3 k4
            go_enter Tryz.func27, Tryz.ntmps27
            go_wp2
            go_ret
            exact ⟨rfl, below_al _ _⟩
end Go.Proofs.YtbeijnflfmjgfaaGreatDoor

namespace Go.Proofs.YtbeijnflfmjgfaaGreatDoor
open Go.RowKit

set_option maxHeartbeats 2000000 in
theorem counted_val (v : Vl) (w : World) (hs : v.text.size ≤ 1000000) :
    Calls Tryz.prog 116 #[.agg v.cells] w fun e w' => e = .returned (.agg (vSound v).cells) ∧ Below w.heap.size w w' := by
  have HGR := hide (fun w => good3_val v w hs)
  unfold vSound
  cases hg : vGood v
  · have HG := hide hg
    clear hg
    unfold Vl.cells at HGR ⊢
    go_enter Tryz.func116, Tryz.ntmps116
    go_wp2_with fail
    refine (unhide HGR _).mono ?_
    rintro e w1 ⟨rfl, b1⟩
    rw [unhide HG]
    go_wp2_with fail
    refine (e_val 3 _).mono ?_
    rintro e w2 ⟨rfl, b2⟩
    have hf0 := five_below (five_new2 w (.cells #[.int .i64 v.kind, .int .i64 v.num, .string v.text, .bool v.tr, .int .i64 v.fail] 28) 28 (.int .i64 0) (.int .i64 0) (.string noText) (.bool false) (.int .i64 0)) b1 (by simp)
    have hb1 := (below_al2 w (.cells #[.int .i64 v.kind, .int .i64 v.num, .string v.text, .bool v.tr, .int .i64 v.fail] 28) (.cells #[.int .i64 0, .int .i64 0, .string noText, .bool false, .int .i64 0] 28)).trans (b1.mono (by simp; omega))
    have hf := five_below (hf0) b2 (five_lt hf0)
    obtain ⟨x0, c0⟩ := five_c hf 0 (by omega)
    obtain ⟨x1, c1⟩ := five_c hf 1 (by omega)
    obtain ⟨x2, c2⟩ := five_c hf 2 (by omega)
    obtain ⟨x3, c3⟩ := five_c hf 3 (by omega)
    obtain ⟨x4, c4⟩ := five_c hf 4 (by omega)
    have f0 := five_f hf 0
    have f1 := five_f hf 1
    have f2 := five_f hf 2
    have f3 := five_f hf 3
    have f4 := five_f hf 4
    have HF := hide hf
    have HB := hide (below_nx hb1 b2)
    clear hf b2 hf0 b1 hb1
    unfold vE Vl.cells
    go_wp2
    refine bodyPost_ret (results_cell_row rfl _ _ _ _ _ _ _ rfl (five_set (unhide HF) _ _ _ _ _).1 Tryz.underlying28 rfl infoVal) rfl ?_
    exact ⟨rfl, below_five (unhide HB) (by omega) _ _ _ _ _⟩
  · have HG := hide hg
    clear hg
    unfold Vl.cells at HGR ⊢
    go_enter Tryz.func116, Tryz.ntmps116
    go_wp2_with fail
    refine (unhide HGR _).mono ?_
    rintro e w1 ⟨rfl, b2⟩
    rw [unhide HG]
    have ho := five_below (five_old w 28 (.int .i64 v.kind) (.int .i64 v.num) (.string v.text) (.bool v.tr) (.int .i64 v.fail) (.cells #[.int .i64 0, .int .i64 0, .string noText, .bool false, .int .i64 0] 28)) b2 (by simp; omega)
    have o0 : w1.cell? ⟨w.heap.size, 0, none⟩ = some (.int .i64 v.kind) := by simp [World.cell?, ho.1]
    have o1 : w1.cell? ⟨w.heap.size, 1, none⟩ = some (.int .i64 v.num) := by simp [World.cell?, ho.1]
    have o2 : w1.cell? ⟨w.heap.size, 2, none⟩ = some (.string v.text) := by simp [World.cell?, ho.1]
    have o3 : w1.cell? ⟨w.heap.size, 3, none⟩ = some (.bool v.tr) := by simp [World.cell?, ho.1]
    have o4 : w1.cell? ⟨w.heap.size, 4, none⟩ = some (.int .i64 v.fail) := by simp [World.cell?, ho.1]
    clear ho
    have hf := five_below (five_new2 w (.cells #[.int .i64 v.kind, .int .i64 v.num, .string v.text, .bool v.tr, .int .i64 v.fail] 28) 28 (.int .i64 0) (.int .i64 0) (.string noText) (.bool false) (.int .i64 0)) b2 (by simp)
    obtain ⟨x0, c0⟩ := five_c hf 0 (by omega)
    obtain ⟨x1, c1⟩ := five_c hf 1 (by omega)
    obtain ⟨x2, c2⟩ := five_c hf 2 (by omega)
    obtain ⟨x3, c3⟩ := five_c hf 3 (by omega)
    obtain ⟨x4, c4⟩ := five_c hf 4 (by omega)
    have f0 := five_f hf 0
    have f1 := five_f hf 1
    have f2 := five_f hf 2
    have f3 := five_f hf 3
    have f4 := five_f hf 4
    have HF := hide hf
    have HB := hide ((below_al2 w (.cells #[.int .i64 v.kind, .int .i64 v.num, .string v.text, .bool v.tr, .int .i64 v.fail] 28) (.cells #[.int .i64 0, .int .i64 0, .string noText, .bool false, .int .i64 0] 28)).trans (b2.mono (by simp; omega)))
    clear hf b2
    go_wp2
    refine bodyPost_ret (results_cell_row rfl _ _ _ _ _ _ _ rfl (five_set (unhide HF) _ _ _ _ _).1 Tryz.underlying28 rfl infoVal) rfl ?_
    exact ⟨rfl, below_five (unhide HB) (by omega) _ _ _ _ _⟩
end Go.Proofs.YtbeijnflfmjgfaaGreatDoor

namespace Go.Proofs.YtbeijnflfmjgfaaGreatDoor
open Go.RowKit

set_option maxRecDepth 100000 in
set_option maxHeartbeats 2000000 in
theorem shift_low (s : ByteArray) (w : World) (hs : s.size ≤ 1000000) :
    Calls Tryz.prog 166 #[.string s, .int .u8 65, .int .u8 90, .int .i64 32] w fun e w' => e = .returned (.string (mapB lowC s)) ∧ Below w.heap.size w w' := by
  have hc := run_bytes_of_string (P := Tryz.prog) w 9 133 5 s Tryz.underlying9 Tryz.underlying133 Tryz.underlying5
  obtain ⟨c, hcc⟩ : ∃ c, grownCap w s.size 0 5 = c := ⟨_, rfl⟩
  rw [hcc] at hc
  clear hcc
  have HT := hide (turn_start lowC s w c)
  have HB : Hid (Below w.heap.size w (w.drew.alloc (.cells (bytesRow s c) 5 ((bytesRow s c).size, (bytesRow s c).size + 1)))) := hide ((Below.refl _ _).drew.alloc (Nat.le_refl _) _)
  obtain ⟨w0, hw0⟩ : ∃ w0, w.drew.alloc (.cells (bytesRow s c) 5 ((bytesRow s c).size, (bytesRow s c).size + 1)) = w0 := ⟨_, rfl⟩
  rw [hw0] at hc HT HB
  clear hw0
  obtain ⟨n, hn⟩ : ∃ n, s.size = n := ⟨_, rfl⟩
  rw [hn] at hc hs
  have HN := hide hn
  go_enter Tryz.func166, Tryz.ntmps166
  go_wp2
  clear hc
  go_loopw [16] (fun t wr => ∃ i : Nat, t = .int .i64 (i : Int) ∧ i ≤ n ∧ Hid (TurnAt lowC s wr w.heap.size i) ∧ Hid (Below w.heap.size w wr)) (fun t _ => n - (intOf t).toNat)
  case atStart => exact ⟨0, rfl, by omega, HT, HB⟩
  case round =>
    clear HT HB
    obtain ⟨i, rfl, hi, HT, HB⟩ := hrel
    by_cases hin : i < n
    · obtain ⟨c0, f0⟩ := (unhide HT).2 i (by omega)
      rw [if_neg (by omega)] at c0
      obtain ⟨x, hx⟩ : ∃ x, byteAt s i = x := ⟨_, rfl⟩
      have hx8 : x.toNat < 256 := x.toNat_lt
      rw [hx] at c0
      have HX := hide hx
      obtain ⟨k, hk⟩ : ∃ k : Nat, x.toNat = k := ⟨_, rfl⟩
      rw [hk] at c0 hx8
      have HK := hide hk
      clear hx hk
      by_cases h1 : 65 ≤ k
      · by_cases h2 : k ≤ 90
        · have TS : Hid (TurnAt lowC s (wr.setCell ⟨w.heap.size, i, none⟩ (.int .u8 ((k : Int) + 32))) w.heap.size (i + 1)) := hide (by
            have h := turn_set (unhide HT) (by have := unhide HN; omega)
            rw [unhide HX] at h
            have e : ((lowC x).toNat : Int) = (k : Int) + 32 := by
              unfold lowC
              rw [unhide HK, if_pos ⟨h1, h2⟩, UInt8.toNat_ofNat']
              omega
            rw [e] at h
            exact h)
          have HB2 := hide ((unhide HB).setCell (p := ⟨w.heap.size, i, none⟩) (Nat.le_refl _) (.int .u8 ((k : Int) + 32)))
          go_wp2
          go_roundw
          case rel => exact ⟨i + 1, by go_num, by omega, TS, HB2⟩
          case measure => simp [intOf]; omega
        · have TS := hide (turn_same (unhide HT) (by rw [unhide HX]; unfold lowC; rw [unhide HK, if_neg (by omega)]))
          have d2 : decide ((k : Int) ≤ 90) = false := decide_eq_false (by omega)
          go_wp2
          go_roundw
          case rel => exact ⟨i + 1, by go_num, by omega, TS, HB⟩
          case measure => simp [intOf]; omega
      · have TS := hide (turn_same (unhide HT) (by rw [unhide HX]; unfold lowC; rw [unhide HK, if_neg (by omega)]))
        have d1 : decide (65 ≤ (k : Int)) = false := decide_eq_false (by omega)
        go_wp2
        go_roundw
        case rel => exact ⟨i + 1, by go_num, by omega, TS, HB⟩
        case measure => simp [intOf]; omega
    · have hb := turn_end (unhide HT) (by have := unhide HN; omega) c
      rw [unhide HN] at hb
      go_wp2
      go_ret
      exact ⟨rfl, unhide HB⟩

set_option maxHeartbeats 1000000 in
theorem lower_val (s : ByteArray) (w : World) (hs : s.size ≤ 1000000) :
    Calls Tryz.prog 122 #[.string s] w fun e w' => e = .returned (.string (mapB lowC s)) ∧ Below w.heap.size w w' := by
  have HS := hide (fun w => shift_low s w hs)
  clear hs
  go_enter Tryz.func122, Tryz.ntmps122
  go_wp2_with fail
  refine (unhide HS _).mono ?_
  rintro e w1 ⟨rfl, b1⟩
  go_wp2
  go_ret
  exact ⟨rfl, b1⟩
end Go.Proofs.YtbeijnflfmjgfaaGreatDoor

namespace Go.Proofs.YtbeijnflfmjgfaaGreatDoor
open Go.RowKit

def signTab (w : World) : Prop := ∀ i : Nat, i < 9 → w.cell? ⟨2, i, none⟩ = some (.string (signL.getD i noText))
theorem signs_below {w w' : World} (h : signTab w) (hb : Below w.heap.size w w') : signTab w' := by
  intro i hi
  have h0 := h i hi
  have hlt : 2 < w.heap.size := by
    rcases Nat.lt_or_ge 2 w.heap.size with h' | h'
    · exact h'
    · simp [World.cell?, Array.getElem?_eq_none h'] at h0
  rw [hb.cell (p := ⟨2, i, none⟩) hlt]
  exact h0

set_option maxHeartbeats 4000000 in
theorem sign_val (f : Int) (w : World) (ht : signTab w) :
    Calls Tryz.prog 169 #[.int .i64 f] w fun e w' => e = .returned (.string (signV f)) ∧ w' = w := by
  have HT := hide ht
  clear ht
  by_cases h1 : f < 0
  · have e1 : signV f = noText := by unfold signV; rw [if_pos (Or.inl (by omega))]
    rw [e1]
    have E1 := hide e1
    clear e1
    go_enter Tryz.func169, Tryz.ntmps169
    go_wp2
    go_ret
    exact ⟨rfl, rfl⟩
  · by_cases h2 : 9 ≤ f
    · have e1 : signV f = noText := by unfold signV; rw [if_pos (Or.inr (by omega))]
      rw [e1]
      have E1 := hide e1
      clear e1
      go_enter Tryz.func169, Tryz.ntmps169
      go_wp2
      go_ret
      exact ⟨rfl, rfl⟩
    · have hf : f = 0 ∨ f = 1 ∨ f = 2 ∨ f = 3 ∨ f = 4 ∨ f = 5 ∨ f = 6 ∨ f = 7 ∨ f = 8 := by omega
      clear h1 h2
      rcases hf with rfl | rfl | rfl | rfl | rfl | rfl | rfl | rfl | rfl
      · have c := unhide HT 0 (by omega)
        go_enter Tryz.func169, Tryz.ntmps169
        go_wp2
        go_ret
        exact ⟨rfl, rfl⟩
      · have c := unhide HT 1 (by omega)
        go_enter Tryz.func169, Tryz.ntmps169
        go_wp2
        go_ret
        exact ⟨rfl, rfl⟩
      · have c := unhide HT 2 (by omega)
        go_enter Tryz.func169, Tryz.ntmps169
        go_wp2
        go_ret
        exact ⟨rfl, rfl⟩
      · have c := unhide HT 3 (by omega)
        go_enter Tryz.func169, Tryz.ntmps169
        go_wp2
        go_ret
        exact ⟨rfl, rfl⟩
      · have c := unhide HT 4 (by omega)
        go_enter Tryz.func169, Tryz.ntmps169
        go_wp2
        go_ret
        exact ⟨rfl, rfl⟩
      · have c := unhide HT 5 (by omega)
        go_enter Tryz.func169, Tryz.ntmps169
        go_wp2
        go_ret
        exact ⟨rfl, rfl⟩
      · have c := unhide HT 6 (by omega)
        go_enter Tryz.func169, Tryz.ntmps169
        go_wp2
        go_ret
        exact ⟨rfl, rfl⟩
      · have c := unhide HT 7 (by omega)
        go_enter Tryz.func169, Tryz.ntmps169
        go_wp2
        go_ret
        exact ⟨rfl, rfl⟩
      · have c := unhide HT 8 (by omega)
        go_enter Tryz.func169, Tryz.ntmps169
        go_wp2
        go_ret
        exact ⟨rfl, rfl⟩
end Go.Proofs.YtbeijnflfmjgfaaGreatDoor

namespace Go.Proofs.YtbeijnflfmjgfaaGreatDoor
open Go.RowKit

structure Env3 (w : World) : Prop where
  tab : powTab w
  len : lenCell w
  sg : signTab w
theorem len_below {w w' : World} (h : lenCell w) (hb : Below w.heap.size w w') : lenCell w' := by
  obtain ⟨m, hm⟩ := h
  refine ⟨m, ?_⟩
  have hlt : 1 < w.heap.size := by
    rcases Nat.lt_or_ge 1 w.heap.size with h' | h'
    · exact h'
    · simp [World.cell?, Array.getElem?_eq_none h'] at hm
  rw [hb.cell (p := ⟨1, 0, none⟩) hlt]
  exact hm
theorem Env3.below {w w' : World} (h : Env3 w) (hb : Below w.heap.size w w') : Env3 w' := ⟨tab_below h.tab hb, len_below h.len hb, signs_below h.sg hb⟩
theorem sign_b (f : Int) (w : World) (h : Env3 w) :
    Calls Tryz.prog 169 #[.int .i64 f] w fun e w' => e = .returned (.string (signV f)) ∧ Below w.heap.size w w' :=
  (sign_val f w h.sg).mono (fun e w' ⟨h1, h2⟩ => ⟨h1, by rw [h2]; exact Below.refl _ _⟩)

set_option maxRecDepth 100000 in
set_option maxHeartbeats 4000000 in
theorem show_val (v : Vl) (w : World) (hs : v.text.size ≤ 1000000) (he : Env3 w) :
    Calls Tryz.prog 124 #[.agg v.cells] w fun e w' => e = .returned (.string (showV (vSound v))) ∧ Below w.heap.size w w' := by
  obtain ⟨u, hu⟩ : ∃ u, vSound v = u := ⟨_, rfl⟩
  have HE := hide he
  clear he
  have HS := hide (fun w => counted_val v w hs)
  have HTX : Hid (u.text.size ≤ 1000000) := hide (by rw [← hu]; exact sound_size v hs)
  rw [hu] at HS ⊢
  clear hu
  unfold Vl.cells at HS ⊢
  cases h1 : (u.kind == 1)
  · have n1 : u.kind ≠ 1 := by rw [beq_eq_false_iff_ne] at h1; exact h1
    cases h2 : (u.kind == 2)
    · have n2 : u.kind ≠ 2 := by rw [beq_eq_false_iff_ne] at h2; exact h2
      cases h3 : (u.kind == 3)
      · have n3 : u.kind ≠ 3 := by rw [beq_eq_false_iff_ne] at h3; exact h3
        cases h4 : (u.kind == 4)
        · have n4 : u.kind ≠ 4 := by rw [beq_eq_false_iff_ne] at h4; exact h4
          have E : Hid (showV u = noText) := hide (by unfold showV; rw [if_neg n1, if_neg n2, if_neg n3, if_neg n4])
          clear n1 n2 n3 n4
          go_enter Tryz.func124, Tryz.ntmps124
          go_wp2_with fail
          refine (unhide HS _).mono ?_
          rintro e w1 ⟨rfl, b1⟩
          have hf := five_below (five_new w 28 (.int .i64 v.kind) (.int .i64 v.num) (.string v.text) (.bool v.tr) (.int .i64 v.fail)) b1 (by simp)
          have HB := hide (below_five ((below_al w (.cells #[.int .i64 v.kind, .int .i64 v.num, .string v.text, .bool v.tr, .int .i64 v.fail] 28)).trans (b1.mono (by simp))) (Nat.le_refl _) (.int .i64 u.kind) (.int .i64 u.num) (.string u.text) (.bool u.tr) (.int .i64 u.fail))
          have HF := hide (five_set hf (.int .i64 u.kind) (.int .i64 u.num) (.string u.text) (.bool u.tr) (.int .i64 u.fail))
          obtain ⟨x0, c0⟩ := five_c hf 0 (by omega)
          obtain ⟨x1, c1⟩ := five_c hf 1 (by omega)
          obtain ⟨x2, c2⟩ := five_c hf 2 (by omega)
          obtain ⟨x3, c3⟩ := five_c hf 3 (by omega)
          obtain ⟨x4, c4⟩ := five_c hf 4 (by omega)
          have f0 := five_f hf 0
          have f1 := five_f hf 1
          have f2 := five_f hf 2
          have f3 := five_f hf 3
          have f4 := five_f hf 4
          clear hf b1
          go_wp2
          go_ret
          exact ⟨by rw [unhide E]; rfl, unhide HB⟩
        · have k4 : u.kind = 4 := by rw [beq_iff_eq] at h4; exact h4
          have E : Hid (showV u = signV u.fail) := hide (by unfold showV; rw [if_neg n1, if_neg n2, if_neg n3, if_pos k4])
          clear n1 n2 n3 k4
          go_enter Tryz.func124, Tryz.ntmps124
          go_wp2_with fail
          refine (unhide HS _).mono ?_
          rintro e w1 ⟨rfl, b1⟩
          have hf := five_below (five_new w 28 (.int .i64 v.kind) (.int .i64 v.num) (.string v.text) (.bool v.tr) (.int .i64 v.fail)) b1 (by simp)
          have HB := hide (below_five ((below_al w (.cells #[.int .i64 v.kind, .int .i64 v.num, .string v.text, .bool v.tr, .int .i64 v.fail] 28)).trans (b1.mono (by simp))) (Nat.le_refl _) (.int .i64 u.kind) (.int .i64 u.num) (.string u.text) (.bool u.tr) (.int .i64 u.fail))
          have HF := hide (five_set hf (.int .i64 u.kind) (.int .i64 u.num) (.string u.text) (.bool u.tr) (.int .i64 u.fail))
          obtain ⟨x0, c0⟩ := five_c hf 0 (by omega)
          obtain ⟨x1, c1⟩ := five_c hf 1 (by omega)
          obtain ⟨x2, c2⟩ := five_c hf 2 (by omega)
          obtain ⟨x3, c3⟩ := five_c hf 3 (by omega)
          obtain ⟨x4, c4⟩ := five_c hf 4 (by omega)
          have f0 := five_f hf 0
          have f1 := five_f hf 1
          have f2 := five_f hf 2
          have f3 := five_f hf 3
          have f4 := five_f hf 4
          clear hf b1
          go_wp2_with fail
          refine (sign_b u.fail _ ((unhide HE).below (unhide HB))).mono ?_
          rintro e w2 ⟨rfl, b2⟩
          have HB2 := hide (below_nx (unhide HB) b2)
          clear b2
          go_wp2
          go_ret
          exact ⟨by rw [unhide E]; rfl, unhide HB2⟩
      · have k3 : u.kind = 3 := by rw [beq_iff_eq] at h3; exact h3
        have E : Hid (showV u = (if u.tr = true then (⟨#[84, 82, 85, 69]⟩ : ByteArray) else ⟨#[70, 65, 76, 83, 69]⟩)) := hide (by unfold showV; rw [if_neg n1, if_neg n2, if_pos k3])
        clear n1 n2 k3
        cases hb : u.tr
        · have E2 : Hid (showV u = (⟨#[70, 65, 76, 83, 69]⟩ : ByteArray)) := hide (by rw [unhide E, hb]; rfl)
          go_enter Tryz.func124, Tryz.ntmps124
          go_wp2_with fail
          refine (unhide HS _).mono ?_
          rintro e w1 ⟨rfl, b1⟩
          have hf := five_below (five_new w 28 (.int .i64 v.kind) (.int .i64 v.num) (.string v.text) (.bool v.tr) (.int .i64 v.fail)) b1 (by simp)
          have HB := hide (below_five ((below_al w (.cells #[.int .i64 v.kind, .int .i64 v.num, .string v.text, .bool v.tr, .int .i64 v.fail] 28)).trans (b1.mono (by simp))) (Nat.le_refl _) (.int .i64 u.kind) (.int .i64 u.num) (.string u.text) (.bool u.tr) (.int .i64 u.fail))
          have HF := hide (five_set hf (.int .i64 u.kind) (.int .i64 u.num) (.string u.text) (.bool u.tr) (.int .i64 u.fail))
          obtain ⟨x0, c0⟩ := five_c hf 0 (by omega)
          obtain ⟨x1, c1⟩ := five_c hf 1 (by omega)
          obtain ⟨x2, c2⟩ := five_c hf 2 (by omega)
          obtain ⟨x3, c3⟩ := five_c hf 3 (by omega)
          obtain ⟨x4, c4⟩ := five_c hf 4 (by omega)
          have f0 := five_f hf 0
          have f1 := five_f hf 1
          have f2 := five_f hf 2
          have f3 := five_f hf 3
          have f4 := five_f hf 4
          clear hf b1
          rw [hb] at HB HF
          go_wp2
          go_ret
          exact ⟨by rw [unhide E2]; rfl, unhide HB⟩
        · have E2 : Hid (showV u = (⟨#[84, 82, 85, 69]⟩ : ByteArray)) := hide (by rw [unhide E, hb]; rfl)
          go_enter Tryz.func124, Tryz.ntmps124
          go_wp2_with fail
          refine (unhide HS _).mono ?_
          rintro e w1 ⟨rfl, b1⟩
          have hf := five_below (five_new w 28 (.int .i64 v.kind) (.int .i64 v.num) (.string v.text) (.bool v.tr) (.int .i64 v.fail)) b1 (by simp)
          have HB := hide (below_five ((below_al w (.cells #[.int .i64 v.kind, .int .i64 v.num, .string v.text, .bool v.tr, .int .i64 v.fail] 28)).trans (b1.mono (by simp))) (Nat.le_refl _) (.int .i64 u.kind) (.int .i64 u.num) (.string u.text) (.bool u.tr) (.int .i64 u.fail))
          have HF := hide (five_set hf (.int .i64 u.kind) (.int .i64 u.num) (.string u.text) (.bool u.tr) (.int .i64 u.fail))
          obtain ⟨x0, c0⟩ := five_c hf 0 (by omega)
          obtain ⟨x1, c1⟩ := five_c hf 1 (by omega)
          obtain ⟨x2, c2⟩ := five_c hf 2 (by omega)
          obtain ⟨x3, c3⟩ := five_c hf 3 (by omega)
          obtain ⟨x4, c4⟩ := five_c hf 4 (by omega)
          have f0 := five_f hf 0
          have f1 := five_f hf 1
          have f2 := five_f hf 2
          have f3 := five_f hf 3
          have f4 := five_f hf 4
          clear hf b1
          rw [hb] at HB HF
          go_wp2
          go_ret
          exact ⟨by rw [unhide E2]; rfl, unhide HB⟩
    · have k2 : u.kind = 2 := by rw [beq_iff_eq] at h2; exact h2
      have E : Hid (showV u = u.text) := hide (by unfold showV; rw [if_neg n1, if_pos k2])
      clear n1 k2
      go_enter Tryz.func124, Tryz.ntmps124
      go_wp2_with fail
      refine (unhide HS _).mono ?_
      rintro e w1 ⟨rfl, b1⟩
      have hf := five_below (five_new w 28 (.int .i64 v.kind) (.int .i64 v.num) (.string v.text) (.bool v.tr) (.int .i64 v.fail)) b1 (by simp)
      have HB := hide (below_five ((below_al w (.cells #[.int .i64 v.kind, .int .i64 v.num, .string v.text, .bool v.tr, .int .i64 v.fail] 28)).trans (b1.mono (by simp))) (Nat.le_refl _) (.int .i64 u.kind) (.int .i64 u.num) (.string u.text) (.bool u.tr) (.int .i64 u.fail))
      have HF := hide (five_set hf (.int .i64 u.kind) (.int .i64 u.num) (.string u.text) (.bool u.tr) (.int .i64 u.fail))
      obtain ⟨x0, c0⟩ := five_c hf 0 (by omega)
      obtain ⟨x1, c1⟩ := five_c hf 1 (by omega)
      obtain ⟨x2, c2⟩ := five_c hf 2 (by omega)
      obtain ⟨x3, c3⟩ := five_c hf 3 (by omega)
      obtain ⟨x4, c4⟩ := five_c hf 4 (by omega)
      have f0 := five_f hf 0
      have f1 := five_f hf 1
      have f2 := five_f hf 2
      have f3 := five_f hf 3
      have f4 := five_f hf 4
      clear hf b1
      go_wp2
      go_ret
      exact ⟨by rw [unhide E]; rfl, unhide HB⟩
  · have k1 : u.kind = 1 := by rw [beq_iff_eq] at h1; exact h1
    have E : Hid (showV u = (⟨(textL u.num).toArray⟩ : ByteArray)) := hide (by unfold showV; rw [if_pos k1])
    clear k1
    go_enter Tryz.func124, Tryz.ntmps124
    go_wp2_with fail
    refine (unhide HS _).mono ?_
    rintro e w1 ⟨rfl, b1⟩
    have hf := five_below (five_new w 28 (.int .i64 v.kind) (.int .i64 v.num) (.string v.text) (.bool v.tr) (.int .i64 v.fail)) b1 (by simp)
    have HB := hide (below_five ((below_al w (.cells #[.int .i64 v.kind, .int .i64 v.num, .string v.text, .bool v.tr, .int .i64 v.fail] 28)).trans (b1.mono (by simp))) (Nat.le_refl _) (.int .i64 u.kind) (.int .i64 u.num) (.string u.text) (.bool u.tr) (.int .i64 u.fail))
    have HF := hide (five_set hf (.int .i64 u.kind) (.int .i64 u.num) (.string u.text) (.bool u.tr) (.int .i64 u.fail))
    obtain ⟨x0, c0⟩ := five_c hf 0 (by omega)
    obtain ⟨x1, c1⟩ := five_c hf 1 (by omega)
    obtain ⟨x2, c2⟩ := five_c hf 2 (by omega)
    obtain ⟨x3, c3⟩ := five_c hf 3 (by omega)
    obtain ⟨x4, c4⟩ := five_c hf 4 (by omega)
    have f0 := five_f hf 0
    have f1 := five_f hf 1
    have f2 := five_f hf 2
    have f3 := five_f hf 3
    have f4 := five_f hf 4
    clear hf b1
    go_wp2_with fail
    refine (text_any u.num _ ((unhide HE).below (unhide HB)).tab).mono ?_
    rintro e w2 ⟨rfl, b2⟩
    have HB2 := hide (below_nx (unhide HB) b2)
    clear b2
    go_wp2
    go_ret
    exact ⟨by rw [unhide E]; rfl, unhide HB2⟩
end Go.Proofs.YtbeijnflfmjgfaaGreatDoor
