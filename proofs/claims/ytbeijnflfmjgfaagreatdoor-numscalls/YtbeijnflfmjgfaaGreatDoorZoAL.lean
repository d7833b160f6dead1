/- The contracts of To and Ratio. -/
import Derived.BigQuiet
import Derived.BigRegion
import Derived.Deep.CutBlock
import Derived.Deep.CutRange
import Derived.Deep.DeepFit
import Derived.Deep.QuietTactic
import Derived.Deep.RegionWith
import Derived.Laws.Bits64b
import Derived.Laws.BitsAllLaws
import Derived.Laws.FloatArith
import Derived.Laws.IdiomStrings
import Derived.Laws.Rows
import Derived.Laws.StructEq
import Derived.Lib.BitFns
import Derived.Lib.IndexBytes
import Derived.Lib.ItoaMem
import Derived.Lib.ItoaNum
import Derived.Lib.TrimByte
import Derived.Lib.Walk
import Derived.OwnWalk
import Derived.Shelf.Bits.Mul64
import Derived.Shelf.LaysM
import Derived.Shelf.Small.Bits
import Derived.Shelf.Small.Strs
import Derived.Shelf.Small.Wraps
import Derived.Shelf.Strconv.Itoa0
import Derived.Shelf.Strconv.Itoa1
import Derived.Shelf.Strconv.Itoa2
import Derived.Shelf.Strings.AsciiSet
import Derived.Shelf.Strings.Cut
import Derived.Shelf.Strings.Prefix
import Derived.Shelf.Strings.Search1
import Derived.Shelf.Strings.Search2
import Derived.Shelf.Strings.Shaped
import Derived.Shelf.Strings.Trim
import Derived.Test.YtbeijnflfmjgfaaGreatDoorProg
import Derived.Test.YtbeijnflfmjgfaaGreatDoorRows
import Derived.WalkKit
import Derived.WalkLawsBesides
import Derived.WalkSmall
import Derived.WalkSpells
import Ieee.Arith
import Derived.Test.YtbeijnflfmjgfaaGreatDoorZoAA
import Derived.Test.YtbeijnflfmjgfaaGreatDoorZoAB
import Derived.Test.YtbeijnflfmjgfaaGreatDoorZoAJ
import Derived.Test.YtbeijnflfmjgfaaGreatDoorZoAK
import Derived.Test.YtbeijnflfmjgfaaGreatDoorZoAC
import Derived.Test.YtbeijnflfmjgfaaGreatDoorZoAD
import Derived.Test.YtbeijnflfmjgfaaGreatDoorZoAE
import Derived.Test.YtbeijnflfmjgfaaGreatDoorZoAF
import Derived.Test.YtbeijnflfmjgfaaGreatDoorZoAG
import Derived.Test.YtbeijnflfmjgfaaGreatDoorZoAH
import Derived.Test.YtbeijnflfmjgfaaGreatDoorZoAI
namespace Go.Proofs.YtbeijnflfmjgfaaGreatDoor
open Go.RowKit

def toI (a : Int) : Nat := Ieee.double.nearest (decide (a < 0)) a.natAbs 0
def toF (a : Int) : Nat := (Ieee.double.div (toI a) 4666723172467343360).getD 0
theorem ofInt_eq (a : Int) : floatOfInt .f64 a = toI a := rfl

theorem toI_norm (a : Int) (h0 : a ≠ 0) (h1 : -9000000000000000000 ≤ a) (h2 : a ≤ 9000000000000000000) :
    ∃ k, toI a = Fl.wordOf (decide (a < 0)) ((a.natAbs.log2 + 1022) * 4503599627370496 + k) ∧ Fl.Kept a.natAbs k ∧ a.natAbs.log2 ≤ 62 := by
  have hl : a.natAbs.log2 < 63 := Fl.log2_lt_of (by
    have : (2 : Nat) ^ 63 = 9223372036854775808 := by decide
    omega) (by omega)
  obtain ⟨k, e, K⟩ := Fl.near_norm (decide (a < 0)) a.natAbs 0 (a.natAbs.log2 + 1022) (by omega) (by omega) (by omega)
  exact ⟨k, e, K, by omega⟩

theorem toF_norm (a : Int) (h0 : a ≠ 0) (h1 : -9000000000000000000 ≤ a) (h2 : a ≤ 9000000000000000000) :
    ∃ d k : Nat, Ieee.double.div (toI a) 4666723172467343360 = some (toF a) ∧ toF a = Fl.wordOf (decide (a < 0)) (d * 4503599627370496 + k) ∧ 4503599627370496 ≤ k ∧ k ≤ 9007199254740992 ∧ 1000 ≤ d ∧ d ≤ 1090 := by
  obtain ⟨k0, e0, K0, hl⟩ := toI_norm a h0 h1 h2
  obtain ⟨l, hll⟩ : ∃ l, a.natAbs.log2 = l := ⟨_, rfl⟩
  rw [hll] at e0 hl
  have kl := K0.low
  have kh := K0.high
  have hs : Fl.sgn (toI a) = decide (a < 0) := by rw [e0]; exact Fl.sgn_word _ _ (by omega)
  have hr : Fl.rng (toI a) = (l + 1022) * 4503599627370496 + k0 := by rw [e0]; exact Fl.rng_word _ _ (by omega)
  have hk : 1022 + l ≤ Fl.mk (Fl.rng (toI a)) ∧ Fl.mk (Fl.rng (toI a)) ≤ 1023 + l := by rw [hr]; unfold Fl.mk; omega
  have y1 : Fl.rng 4666723172467343360 = 4666723172467343360 := by decide
  have y2 : Fl.mk 4666723172467343360 = 1035 := by decide
  have y3 : Fl.sgn 4666723172467343360 = false := by decide
  obtain ⟨d, k, c, f1, f2, f3, f4, f5, f6, _, _⟩ := Fl.div_norm (toI a) 4666723172467343360 (by rw [hr]; omega) (by rw [hr]; omega) (by rw [y1]; decide) (by rw [y1]; decide) (by rw [y1, y2]; omega) (by rw [y1, y2]; omega)
  rw [hs, y3, Bool.xor_false] at f1
  rw [y1, y2] at f6
  refine ⟨d, k, ?_, ?_, f2, f3, by omega, by omega⟩
  · unfold toF; rw [f1]; rfl
  · unfold toF; rw [f1]; rfl
theorem toF_zero : toF 0 = 0 := by decide +kernel
theorem toF_some (a : Int) (h1 : -9000000000000000000 ≤ a) (h2 : a ≤ 9000000000000000000) : Ieee.double.div (toI a) 4666723172467343360 = some (toF a) := by
  by_cases h0 : a = 0
  · subst h0; decide +kernel
  · obtain ⟨_, _, e, _⟩ := toF_norm a h0 h1 h2; exact e

def goodN (a : Int) : Int := if goodB a = true then a else 0
theorem goodN_le (a : Int) : -9000000000000000000 ≤ goodN a ∧ goodN a ≤ 9000000000000000000 := by
  unfold goodN
  by_cases h : goodB a = true
  · rw [if_pos h]; exact (goodB_iff a).1 h
  · rw [if_neg h]; omega
def toV (a : Int) : Nat := toF (goodN a)

theorem und33 : (Tryz.prog.underlying 25).isSome = true := by rw [Tryz.underlying25]; rfl
set_option maxHeartbeats 400000 in
theorem to_any (a : Int) (w : World) :
    Calls Tryz.prog 173 #[.int .i64 a] w fun e w' => e = .returned (.float .f64 (toV a)) ∧ Below w.heap.size w w' := by
  obtain ⟨g, hg⟩ : ∃ g, goodN a = g := ⟨_, rfl⟩
  have hb := goodN_le a
  rw [hg] at hb
  have HR : Hid (∀ w, Calls Tryz.prog 56 #[.int .i64 a] w fun e w' => ∃ q, e = .returned (.tuple #[.int .i64 g, .int .i64 q]) ∧ Below w.heap.size w w') := hide (fun w => (raw_any a w).mono (by
    rintro e w' ⟨rfl, hb⟩
    exact ⟨_, by rw [← hg]; rfl, hb⟩))
  have ht : toV a = toF g := by unfold toV; rw [hg]
  rw [ht]
  have HS := hide (toF_some g hb.1 hb.2)
  clear hg ht hb
  go_enter Tryz.func173, Tryz.ntmps173
  go_wp2_with fail
  refine (unhide HR _).mono ?_
  rintro e w1 ⟨q, rfl, b1⟩
  have e1 := run_convert_int_float (P := Tryz.prog) w1 25 119 .i64 .f64 g und33 Tryz.underlying119
  rw [ofInt_eq] at e1
  have e2 := run_float_arith (P := Tryz.prog) w1 .quo 119 .f64 (toI g) 4666723172467343360 (toF g) (unhide HS)
  go_wp2
  go_ret
  exact ⟨rfl, b1⟩
end Go.Proofs.YtbeijnflfmjgfaaGreatDoor

namespace Go.Proofs.YtbeijnflfmjgfaaGreatDoor
open Go.RowKit

def ratC (a b : Int) : Int :=
  if b = 0 then (if a = 0 then 0 else if a < 0 then 1 else 6) else if a = 0 then (if b < 0 then 3 else 4) else if decide (a < 0) = decide (b < 0) then 5 else 2

theorem cls_word (s : Bool) (r : Nat) (h : r < 9223372036854775808) : clsV (Fl.wordOf s r) =
    (if 9218868437227405312 < r then 0 else if r = 9218868437227405312 then (if s = true then 1 else 6) else if r = 0 then (if s = true then 3 else 4) else if s = true then 2 else 5) := by
  unfold clsV
  rw [Fl.sgn_word s r h, Fl.rng_word s r h]

theorem quo_both (a b : Int) (a0 : a ≠ 0) (b0 : b ≠ 0) (a1 : -9000000000000000000 ≤ a) (a2 : a ≤ 9000000000000000000) (b1 : -9000000000000000000 ≤ b) (b2 : b ≤ 9000000000000000000) :
    ∃ r, Ieee.double.div (toF a) (toF b) = some r ∧ r < 18446744073709551616 ∧ clsV r = ratC a b := by
  obtain ⟨d, k, _, e, k1, k2, d1, d2⟩ := toF_norm a a0 a1 a2
  obtain ⟨d', k', _, e', k1', k2', d1', d2'⟩ := toF_norm b b0 b1 b2
  have r1 : Fl.rng (toF a) = d * 4503599627370496 + k := by rw [e]; exact Fl.rng_word _ _ (by omega)
  have r2 : Fl.rng (toF b) = d' * 4503599627370496 + k' := by rw [e']; exact Fl.rng_word _ _ (by omega)
  have s1 : Fl.sgn (toF a) = decide (a < 0) := by rw [e]; exact Fl.sgn_word _ _ (by omega)
  have s2 : Fl.sgn (toF b) = decide (b < 0) := by rw [e']; exact Fl.sgn_word _ _ (by omega)
  have m1 : d ≤ Fl.mk (Fl.rng (toF a)) ∧ Fl.mk (Fl.rng (toF a)) ≤ d + 1 := by rw [r1]; unfold Fl.mk; omega
  have m2 : d' ≤ Fl.mk (Fl.rng (toF b)) ∧ Fl.mk (Fl.rng (toF b)) ≤ d' + 1 := by rw [r2]; unfold Fl.mk; omega
  obtain ⟨D, K, c, f1, f2, f3, f4, f5, f6, _, _⟩ := Fl.div_norm (toF a) (toF b) (by rw [r1]; omega) (by rw [r1]; omega) (by rw [r2]; omega) (by rw [r2]; omega) (by omega) (by omega)
  rw [s1, s2] at f1
  have hD : D ≤ 1200 := by omega
  refine ⟨_, f1, Fl.word_lt _ _ (by omega), ?_⟩
  rw [cls_word _ _ (by omega), if_neg (by omega), if_neg (by omega), if_neg (by omega)]
  unfold ratC
  rw [if_neg b0, if_neg a0]
  cases decide (a < 0) <;> cases decide (b < 0) <;> rfl
theorem toF_pos (a : Int) (a0 : a ≠ 0) (a1 : -9000000000000000000 ≤ a) (a2 : a ≤ 9000000000000000000) : Fl.rng (toF a) < 9218868437227405312 ∧ Fl.mm (Fl.rng (toF a)) ≠ 0 ∧ Fl.sgn (toF a) = decide (a < 0) := by
  obtain ⟨d, k, _, e, k1, k2, d1, d2⟩ := toF_norm a a0 a1 a2
  have r1 : Fl.rng (toF a) = d * 4503599627370496 + k := by rw [e]; exact Fl.rng_word _ _ (by omega)
  have s1 : Fl.sgn (toF a) = decide (a < 0) := by rw [e]; exact Fl.sgn_word _ _ (by omega)
  have := Fl.mm_ge (Fl.rng (toF a)) (by rw [r1]; omega)
  exact ⟨by rw [r1]; omega, by omega, s1⟩
theorem quo_low (b : Int) (b0 : b ≠ 0) (b1 : -9000000000000000000 ≤ b) (b2 : b ≤ 9000000000000000000) :
    ∃ r, Ieee.double.div (toF 0) (toF b) = some r ∧ r < 18446744073709551616 ∧ clsV r = ratC 0 b := by
  obtain ⟨h1, h2, h3⟩ := toF_pos b b0 b1 b2
  refine ⟨Fl.wordOf (decide (b < 0)) 0, ?_, Fl.word_lt _ _ (by decide), ?_⟩
  · rw [toF_zero]
    unfold Ieee.Format.div
    rw [Fl.read_fin 0 (by decide), Fl.read_fin (toF b) h1, h3, show Fl.sgn 0 = false from by decide, show Fl.mm (Fl.rng 0) = 0 from by decide]
    generalize Fl.mm (Fl.rng (toF b)) = n at *
    generalize Fl.mk (Fl.rng (toF b)) = j
    generalize Fl.mk (Fl.rng 0) = i
    show ((if n = 0 then (if (0 : Nat) = 0 then none else some (Ieee.Datum.infinity (false ^^ decide (b < 0)))) else some (Ieee.Datum.number (false ^^ decide (b < 0)) (2 * (0 <<< (Ieee.double.fractionBits + 2 + n.log2 - (0 : Nat).log2) / n) + (0 <<< (Ieee.double.fractionBits + 2 + n.log2 - (0 : Nat).log2) % n != 0).toNat) ((-1074 + (i : Int)) - (-1074 + (j : Int)) - ((Ieee.double.fractionBits + 2 + n.log2 - (0 : Nat).log2 : Nat) : Int) - 1))).map Ieee.double.write) = _
    rw [if_neg h2, Nat.zero_shiftLeft, Nat.zero_div, Nat.zero_mod]
    show some (Ieee.double.nearest (false ^^ decide (b < 0)) (2 * 0 + 0) _) = _
    unfold Ieee.Format.nearest
    rw [if_pos rfl, Bool.false_xor]
    refine congrArg some ?_
    unfold Ieee.Format.word Fl.wordOf
    rw [Fl.sw]
  · rw [cls_word _ _ (by decide), if_neg (by decide), if_neg (by decide), if_pos rfl]
    unfold ratC
    rw [if_neg b0, if_pos rfl]
    by_cases h : b < 0
    · rw [decide_eq_true h, if_pos rfl, if_pos h]
    · rw [decide_eq_false h, if_neg (by decide), if_neg h]
theorem quot_inf (g : Nat) (s t : Bool) (m : Nat) (i j : Int) (h : m ≠ 0) : Ieee.Datum.quotient g (.number s m i) (.number t 0 j) = some (.infinity (s ^^ t)) := by
  unfold Ieee.Datum.quotient; simp [h]
theorem quo_high (a : Int) (a0 : a ≠ 0) (a1 : -9000000000000000000 ≤ a) (a2 : a ≤ 9000000000000000000) :
    ∃ r, Ieee.double.div (toF a) (toF 0) = some r ∧ r < 18446744073709551616 ∧ clsV r = ratC a 0 := by
  obtain ⟨h1, h2, h3⟩ := toF_pos a a0 a1 a2
  refine ⟨Fl.wordOf (decide (a < 0)) 9218868437227405312, ?_, Fl.word_lt _ _ (by decide), ?_⟩
  · rw [toF_zero]
    unfold Ieee.Format.div
    rw [Fl.read_fin 0 (by decide), Fl.read_fin (toF a) h1, h3, show Fl.sgn 0 = false from by decide, show Fl.mm (Fl.rng 0) = 0 from by decide]
    generalize Fl.mm (Fl.rng (toF a)) = m at *
    rw [quot_inf _ _ _ _ _ _ h2, Bool.xor_false]
    show some (Ieee.double.word (decide (a < 0)) Ieee.double.infRung) = _
    refine congrArg some ?_
    unfold Ieee.Format.word Fl.wordOf
    rw [Fl.sw, Fl.ir]
  · rw [cls_word _ _ (by decide), if_neg (by decide), if_pos rfl]
    unfold ratC
    rw [if_pos rfl, if_neg a0]
    by_cases h : a < 0
    · rw [decide_eq_true h, if_pos rfl, if_pos h]
    · rw [decide_eq_false h, if_neg (by decide), if_neg h]
theorem quo_none : Ieee.double.div 0 0 = none := by decide +kernel
theorem run_nan (w : World) : ∃ n, n < 18446744073709551616 ∧ 9218868437227405312 < Fl.rng n ∧ (binOp .quo 119 (.float .f64 0) (.float .f64 0)).run Tryz.prog w = .ok (.float .f64 n) w.drew := by
  obtain ⟨t, ht⟩ : ∃ t, w.tape w.drawn (.nanBits .f64 0 0) = t := ⟨_, rfl⟩
  refine ⟨(Question.nanBits .f64 0 0).cut t, ?_, ?_, ?_⟩
  · show (t % 2) * 2 ^ 63 + 0x7ff0000000000000 + 1 + (t / 2) % (2 ^ 52 - 1) < _
    omega
  · show 9218868437227405312 < ((t % 2) * 2 ^ 63 + 0x7ff0000000000000 + 1 + (t / 2) % (2 ^ 52 - 1)) % 9223372036854775808
    generalize t / 2 = u
    have h : t % 2 = 0 ∨ t % 2 = 1 := by omega
    rcases h with h | h <;> rw [h] <;> omega
  · rw [← ht]
    have e : FloatKind.f64.format.div 0 0 = none := quo_none
    simp only [binOp, Op.floatArith, e]
    rfl
end Go.Proofs.YtbeijnflfmjgfaaGreatDoor

namespace Go.Proofs.YtbeijnflfmjgfaaGreatDoor
open Go.RowKit

def ratW (a b : Int) : Nat := (Ieee.double.div (toF a) (toF b)).getD 0
theorem ratW_some (a b : Int) (h0 : b ≠ 0) (a1 : -9000000000000000000 ≤ a) (a2 : a ≤ 9000000000000000000) (b1 : -9000000000000000000 ≤ b) (b2 : b ≤ 9000000000000000000) :
    Ieee.double.div (toF a) (toF b) = some (ratW a b) ∧ ratW a b < 18446744073709551616 := by
  have hq : ∃ r, Ieee.double.div (toF a) (toF b) = some r ∧ r < 18446744073709551616 ∧ clsV r = ratC a b := by
    by_cases a0 : a = 0
    · subst a0; exact quo_low b h0 b1 b2
    · exact quo_both a b a0 h0 a1 a2 b1 b2
  obtain ⟨r, hr, hr2, _⟩ := hq
  unfold ratW
  rw [hr]
  exact ⟨rfl, hr2⟩
theorem und_i64 : (Tryz.prog.underlying 2).isSome = true := by rw [Tryz.underlying2]; rfl
theorem from9_ref (b : Nat) (w : World) (hb : b < 18446744073709551616) :
    Calls Tryz.prog 112 #[.int .u64 (b : Int)] w fun e w' => e = .returned (.tuple #[.int .i64 (frN b), .int .i64 (frE b)]) ∧ Below w.heap.size w w' := by
  rcases Nat.lt_or_ge (Fl.rng b) 9218868437227405312 with h | h
  · exact fromref_fin b w hb h
  · exact fromref_bad b w hb h
def ratV (a b : Int) : Vl := if b = 0 then vE 1 else toldV (frN (ratW a b), frE (ratW a b))
def twoV (s : List UInt8) (a b : Int) : Vl :=
  if s = [82, 79, 85, 78, 68] ∨ s = [82, 79, 85, 78, 68, 85, 80] then
    (if b.tmod 10000 ≠ 0 ∨ b < -150000 ∨ 150000 < b then vE 2 else if s = [82, 79, 85, 78, 68, 85, 80] then upV a (b.tdiv 10000) else toldV (roundR a (b.tdiv 10000)))
  else if s = [77, 79, 68] then toldV (modR a b)
  else if s = [81, 85, 79, 84, 73, 69, 78, 84] then quoV a b
  else if s = [80, 79, 87, 69, 82] then powV a b
  else if s = [71, 67, 68] then gcdV a b
  else ratV a b

set_option maxRecDepth 100000 in
set_option maxHeartbeats 8000000 in
theorem two9_ref (s : ByteArray) (a b : Int) (w : World) (ha1 : -9000000000000000000 ≤ a) (ha2 : a ≤ 9000000000000000000) (hb1 : -9000000000000000000 ≤ b) (hb2 : b ≤ 9000000000000000000) :
    Calls Tryz.prog 55 #[.string s, .int .i64 a, .int .i64 b] w fun e w' => e = .returned (.agg (twoV s.toList a b).cells) ∧ Below w.heap.size w w' := by
  unfold twoV
  by_cases h_R : s.toList = [82, 79, 85, 78, 68] ∨ s.toList = [82, 79, 85, 78, 68, 85, 80]
  · rw [if_pos h_R]
    rcases h_R with h | h
    · obtain rfl := toList_lit h
      clear h
      by_cases h1 : b.tmod 10000 = 0
      rotate_left
      · rw [if_pos (Or.inl h1)]
        have HC := hide (fun w => e9_ref 2 w (by omega) (by omega))
        generalize vE 2 = V at HC ⊢
        go_enter Tryz.func55, Tryz.ntmps55
        go_wp2_with fail
        refine (unhide HC _).mono ?_
        rintro e wz ⟨rfl, bz⟩
        have hf := five_below (five_new w 29 _ _ _ _ _) bz (five_lt (five_new w 29 _ _ _ _ _))
        obtain ⟨⟨⟨x0, c0⟩, ⟨x1, c1⟩, ⟨x2, c2⟩, ⟨x3, c3⟩, x4, c4⟩, f0, f1, f2, f3, f4⟩ := five_all hf
        have HF := hide hf
        have HB := hide (below_nx (below_al w _) bz)
        clear hf bz
        unfold Vl.cells
        go_wp2
        refine bodyPost_ret (results_cell_row rfl _ _ _ _ _ _ _ rfl (five_set (unhide HF) _ _ _ _ _).1 Tryz.underlying29 rfl infoRef) rfl ?_
        exact ⟨rfl, below_five (unhide HB) (Nat.le_refl _) _ _ _ _ _⟩
      by_cases h2 : b < -150000
      · rw [if_pos (Or.inr (Or.inl h2))]
        have HC := hide (fun w => e9_ref 2 w (by omega) (by omega))
        generalize vE 2 = V at HC ⊢
        go_enter Tryz.func55, Tryz.ntmps55
        go_wp2_with fail
        refine (unhide HC _).mono ?_
        rintro e wz ⟨rfl, bz⟩
        have hf := five_below (five_new w 29 _ _ _ _ _) bz (five_lt (five_new w 29 _ _ _ _ _))
        obtain ⟨⟨⟨x0, c0⟩, ⟨x1, c1⟩, ⟨x2, c2⟩, ⟨x3, c3⟩, x4, c4⟩, f0, f1, f2, f3, f4⟩ := five_all hf
        have HF := hide hf
        have HB := hide (below_nx (below_al w _) bz)
        clear hf bz
        unfold Vl.cells
        go_wp2
        refine bodyPost_ret (results_cell_row rfl _ _ _ _ _ _ _ rfl (five_set (unhide HF) _ _ _ _ _).1 Tryz.underlying29 rfl infoRef) rfl ?_
        exact ⟨rfl, below_five (unhide HB) (Nat.le_refl _) _ _ _ _ _⟩
      by_cases h3 : 150000 < b
      · rw [if_pos (Or.inr (Or.inr h3))]
        have HC := hide (fun w => e9_ref 2 w (by omega) (by omega))
        generalize vE 2 = V at HC ⊢
        go_enter Tryz.func55, Tryz.ntmps55
        go_wp2_with fail
        refine (unhide HC _).mono ?_
        rintro e wz ⟨rfl, bz⟩
        have hf := five_below (five_new w 29 _ _ _ _ _) bz (five_lt (five_new w 29 _ _ _ _ _))
        obtain ⟨⟨⟨x0, c0⟩, ⟨x1, c1⟩, ⟨x2, c2⟩, ⟨x3, c3⟩, x4, c4⟩, f0, f1, f2, f3, f4⟩ := five_all hf
        have HF := hide hf
        have HB := hide (below_nx (below_al w _) bz)
        clear hf bz
        unfold Vl.cells
        go_wp2
        refine bodyPost_ret (results_cell_row rfl _ _ _ _ _ _ _ rfl (five_set (unhide HF) _ _ _ _ _).1 Tryz.underlying29 rfl infoRef) rfl ?_
        exact ⟨rfl, below_five (unhide HB) (Nat.le_refl _) _ _ _ _ _⟩
      rw [if_neg (by omega), if_neg (by rw [ByteArray.toList_eq]; decide)]
      obtain ⟨q, hq⟩ : ∃ q, b.tdiv 10000 = q := ⟨_, rfl⟩
      have hqb : -15 ≤ q ∧ q ≤ 15 := by
        have e := Int.mul_tdiv_add_tmod b 10000
        omega
      obtain ⟨q1, q2⟩ := hqb
      rw [hq]
      have hr1 : -15 ≤ b.tdiv 10000 := by rw [hq]; exact q1
      have hr2 : b.tdiv 10000 ≤ 15 := by rw [hq]; exact q2
      have HQ := hide hq
      clear hq
      have HF := hide (fun w => round_ref a q w)
      have HC := hide (fun w => told_ref (roundR a q).1 (roundR a q).2 w)
      rw [show toldV ((roundR a q).1, (roundR a q).2) = toldV (roundR a q) from rfl] at HC
      generalize toldV (roundR a q) = V at HC ⊢
      generalize roundR a q = g at HF HC
      go_enter Tryz.func55, Tryz.ntmps55
      go_wp2_with fail
      simp only [unhide HQ]
      refine (unhide HF _).mono ?_
      rintro e w2 ⟨rfl, b2⟩
      have HX2 := hide (five_below (five_new w 29 _ _ _ _ _) b2 (five_lt (five_new w 29 _ _ _ _ _)))
      have HB2 := hide (below_nx (below_al w _) b2)
      clear b2
      go_wp2_with fail
      refine (unhide HC _).mono ?_
      rintro e wz ⟨rfl, bz⟩
      have hf := five_below (unhide HX2) bz (five_lt (unhide HX2))
      obtain ⟨⟨⟨x0, c0⟩, ⟨x1, c1⟩, ⟨x2, c2⟩, ⟨x3, c3⟩, x4, c4⟩, f0, f1, f2, f3, f4⟩ := five_all hf
      have HF := hide hf
      have HB := hide (below_nx (unhide HB2) bz)
      clear hf bz
      unfold Vl.cells
      go_wp2
      refine bodyPost_ret (results_cell_row rfl _ _ _ _ _ _ _ rfl (five_set (unhide HF) _ _ _ _ _).1 Tryz.underlying29 rfl infoRef) rfl ?_
      exact ⟨rfl, below_five (unhide HB) (Nat.le_refl _) _ _ _ _ _⟩
    · obtain rfl := toList_lit h
      clear h
      by_cases h1 : b.tmod 10000 = 0
      rotate_left
      · rw [if_pos (Or.inl h1)]
        have HC := hide (fun w => e9_ref 2 w (by omega) (by omega))
        generalize vE 2 = V at HC ⊢
        go_enter Tryz.func55, Tryz.ntmps55
        go_wp2_with fail
        refine (unhide HC _).mono ?_
        rintro e wz ⟨rfl, bz⟩
        have hf := five_below (five_new w 29 _ _ _ _ _) bz (five_lt (five_new w 29 _ _ _ _ _))
        obtain ⟨⟨⟨x0, c0⟩, ⟨x1, c1⟩, ⟨x2, c2⟩, ⟨x3, c3⟩, x4, c4⟩, f0, f1, f2, f3, f4⟩ := five_all hf
        have HF := hide hf
        have HB := hide (below_nx (below_al w _) bz)
        clear hf bz
        unfold Vl.cells
        go_wp2
        refine bodyPost_ret (results_cell_row rfl _ _ _ _ _ _ _ rfl (five_set (unhide HF) _ _ _ _ _).1 Tryz.underlying29 rfl infoRef) rfl ?_
        exact ⟨rfl, below_five (unhide HB) (Nat.le_refl _) _ _ _ _ _⟩
      by_cases h2 : b < -150000
      · rw [if_pos (Or.inr (Or.inl h2))]
        have HC := hide (fun w => e9_ref 2 w (by omega) (by omega))
        generalize vE 2 = V at HC ⊢
        go_enter Tryz.func55, Tryz.ntmps55
        go_wp2_with fail
        refine (unhide HC _).mono ?_
        rintro e wz ⟨rfl, bz⟩
        have hf := five_below (five_new w 29 _ _ _ _ _) bz (five_lt (five_new w 29 _ _ _ _ _))
        obtain ⟨⟨⟨x0, c0⟩, ⟨x1, c1⟩, ⟨x2, c2⟩, ⟨x3, c3⟩, x4, c4⟩, f0, f1, f2, f3, f4⟩ := five_all hf
        have HF := hide hf
        have HB := hide (below_nx (below_al w _) bz)
        clear hf bz
        unfold Vl.cells
        go_wp2
        refine bodyPost_ret (results_cell_row rfl _ _ _ _ _ _ _ rfl (five_set (unhide HF) _ _ _ _ _).1 Tryz.underlying29 rfl infoRef) rfl ?_
        exact ⟨rfl, below_five (unhide HB) (Nat.le_refl _) _ _ _ _ _⟩
      by_cases h3 : 150000 < b
      · rw [if_pos (Or.inr (Or.inr h3))]
        have HC := hide (fun w => e9_ref 2 w (by omega) (by omega))
        generalize vE 2 = V at HC ⊢
        go_enter Tryz.func55, Tryz.ntmps55
        go_wp2_with fail
        refine (unhide HC _).mono ?_
        rintro e wz ⟨rfl, bz⟩
        have hf := five_below (five_new w 29 _ _ _ _ _) bz (five_lt (five_new w 29 _ _ _ _ _))
        obtain ⟨⟨⟨x0, c0⟩, ⟨x1, c1⟩, ⟨x2, c2⟩, ⟨x3, c3⟩, x4, c4⟩, f0, f1, f2, f3, f4⟩ := five_all hf
        have HF := hide hf
        have HB := hide (below_nx (below_al w _) bz)
        clear hf bz
        unfold Vl.cells
        go_wp2
        refine bodyPost_ret (results_cell_row rfl _ _ _ _ _ _ _ rfl (five_set (unhide HF) _ _ _ _ _).1 Tryz.underlying29 rfl infoRef) rfl ?_
        exact ⟨rfl, below_five (unhide HB) (Nat.le_refl _) _ _ _ _ _⟩
      rw [if_neg (by omega), if_pos (by rw [ByteArray.toList_eq])]
      obtain ⟨q, hq⟩ : ∃ q, b.tdiv 10000 = q := ⟨_, rfl⟩
      have hqb : -15 ≤ q ∧ q ≤ 15 := by
        have e := Int.mul_tdiv_add_tmod b 10000
        omega
      obtain ⟨q1, q2⟩ := hqb
      rw [hq]
      have hr1 : -15 ≤ b.tdiv 10000 := by rw [hq]; exact q1
      have hr2 : b.tdiv 10000 ≤ 15 := by rw [hq]; exact q2
      have HQ := hide hq
      clear hq
      have HC := hide (fun w => up9_ref a q w (by omega) (by omega) (by omega))
      generalize upV a q = V at HC ⊢
      go_enter Tryz.func55, Tryz.ntmps55
      go_wp2_with fail
      simp only [unhide HQ]
      refine (unhide HC _).mono ?_
      rintro e wz ⟨rfl, bz⟩
      have hf := five_below (five_new w 29 _ _ _ _ _) bz (five_lt (five_new w 29 _ _ _ _ _))
      obtain ⟨⟨⟨x0, c0⟩, ⟨x1, c1⟩, ⟨x2, c2⟩, ⟨x3, c3⟩, x4, c4⟩, f0, f1, f2, f3, f4⟩ := five_all hf
      have HF := hide hf
      have HB := hide (below_nx (below_al w _) bz)
      clear hf bz
      unfold Vl.cells
      go_wp2
      refine bodyPost_ret (results_cell_row rfl _ _ _ _ _ _ _ rfl (five_set (unhide HF) _ _ _ _ _).1 Tryz.underlying29 rfl infoRef) rfl ?_
      exact ⟨rfl, below_five (unhide HB) (Nat.le_refl _) _ _ _ _ _⟩
  rw [if_neg h_R]
  by_cases h_MOD : s.toList = [77, 79, 68]
  · rw [if_pos h_MOD]
    obtain rfl := toList_lit h_MOD
    clear h_MOD
    have HF := hide (fun w => mod_ref a b w)
    have HC := hide (fun w => told_ref (modR a b).1 (modR a b).2 w)
    rw [show toldV ((modR a b).1, (modR a b).2) = toldV (modR a b) from rfl] at HC
    generalize toldV (modR a b) = V at HC ⊢
    generalize modR a b = g at HF HC
    go_enter Tryz.func55, Tryz.ntmps55
    go_wp2_with fail
    refine (unhide HF _).mono ?_
    rintro e w2 ⟨rfl, b2⟩
    have HX2 := hide (five_below (five_new w 29 _ _ _ _ _) b2 (five_lt (five_new w 29 _ _ _ _ _)))
    have HB2 := hide (below_nx (below_al w _) b2)
    clear b2
    go_wp2_with fail
    refine (unhide HC _).mono ?_
    rintro e wz ⟨rfl, bz⟩
    have hf := five_below (unhide HX2) bz (five_lt (unhide HX2))
    obtain ⟨⟨⟨x0, c0⟩, ⟨x1, c1⟩, ⟨x2, c2⟩, ⟨x3, c3⟩, x4, c4⟩, f0, f1, f2, f3, f4⟩ := five_all hf
    have HF := hide hf
    have HB := hide (below_nx (unhide HB2) bz)
    clear hf bz
    unfold Vl.cells
    go_wp2
    refine bodyPost_ret (results_cell_row rfl _ _ _ _ _ _ _ rfl (five_set (unhide HF) _ _ _ _ _).1 Tryz.underlying29 rfl infoRef) rfl ?_
    exact ⟨rfl, below_five (unhide HB) (Nat.le_refl _) _ _ _ _ _⟩
  rw [if_neg h_MOD]
  by_cases h_QUOTIENT : s.toList = [81, 85, 79, 84, 73, 69, 78, 84]
  · rw [if_pos h_QUOTIENT]
    obtain rfl := toList_lit h_QUOTIENT
    clear h_QUOTIENT
    unfold quoV
    by_cases h0 : b = 0
    · rw [if_pos h0]
      have HC := hide (fun w => e9_ref 1 w (by omega) (by omega))
      generalize vE 1 = V at HC ⊢
      go_enter Tryz.func55, Tryz.ntmps55
      go_wp2_with fail
      refine (unhide HC _).mono ?_
      rintro e wz ⟨rfl, bz⟩
      have hf := five_below (five_new w 29 _ _ _ _ _) bz (five_lt (five_new w 29 _ _ _ _ _))
      obtain ⟨⟨⟨x0, c0⟩, ⟨x1, c1⟩, ⟨x2, c2⟩, ⟨x3, c3⟩, x4, c4⟩, f0, f1, f2, f3, f4⟩ := five_all hf
      have HF := hide hf
      have HB := hide (below_nx (below_al w _) bz)
      clear hf bz
      unfold Vl.cells
      go_wp2
      refine bodyPost_ret (results_cell_row rfl _ _ _ _ _ _ _ rfl (five_set (unhide HF) _ _ _ _ _).1 Tryz.underlying29 rfl infoRef) rfl ?_
      exact ⟨rfl, below_five (unhide HB) (Nat.le_refl _) _ _ _ _ _⟩
    rw [if_neg h0]
    have hkb : -9000000000000000000 ≤ a.tdiv b ∧ a.tdiv b ≤ 9000000000000000000 := by
      have e : (a.tdiv b).natAbs = a.natAbs / b.natAbs := Int.natAbs_tdiv a b
      have := Nat.div_le_self a.natAbs b.natAbs
      omega
    obtain ⟨k1, k2⟩ := hkb
    by_cases hw : wholeB (a.tdiv b) = true
    · rw [if_pos hw]
      have hw2 : -900000000000000 ≤ a.tdiv b ∧ a.tdiv b ≤ 900000000000000 := by simpa [wholeB] using hw
      obtain ⟨v1, v2⟩ := hw2
      have HC := hide (fun w => told_ref (10000 * a.tdiv b) 0 w)
      rw [show toldV (10000 * a.tdiv b, 0) = vN (10000 * a.tdiv b) from rfl] at HC
      generalize vN (10000 * a.tdiv b) = V at HC ⊢
      clear hw
      go_enter Tryz.func55, Tryz.ntmps55
      go_wp2_with fail
      refine (unhide HC _).mono ?_
      rintro e wz ⟨rfl, bz⟩
      have hf := five_below (five_new w 29 _ _ _ _ _) bz (five_lt (five_new w 29 _ _ _ _ _))
      obtain ⟨⟨⟨x0, c0⟩, ⟨x1, c1⟩, ⟨x2, c2⟩, ⟨x3, c3⟩, x4, c4⟩, f0, f1, f2, f3, f4⟩ := five_all hf
      have HF := hide hf
      have HB := hide (below_nx (below_al w _) bz)
      clear hf bz
      unfold Vl.cells
      go_wp2
      refine bodyPost_ret (results_cell_row rfl _ _ _ _ _ _ _ rfl (five_set (unhide HF) _ _ _ _ _).1 Tryz.underlying29 rfl infoRef) rfl ?_
      exact ⟨rfl, below_five (unhide HB) (Nat.le_refl _) _ _ _ _ _⟩
    · rw [if_neg hw]
      have hw2 : ¬ (-900000000000000 ≤ a.tdiv b ∧ a.tdiv b ≤ 900000000000000) := by simpa [wholeB] using hw
      clear hw
      by_cases hg : 900000000000000 < a.tdiv b
      · clear hw2
        have HC := hide (fun w => e9_ref 2 w (by omega) (by omega))
        generalize vE 2 = V at HC ⊢
        go_enter Tryz.func55, Tryz.ntmps55
        go_wp2_with fail
        refine (unhide HC _).mono ?_
        rintro e wz ⟨rfl, bz⟩
        have hf := five_below (five_new w 29 _ _ _ _ _) bz (five_lt (five_new w 29 _ _ _ _ _))
        obtain ⟨⟨⟨x0, c0⟩, ⟨x1, c1⟩, ⟨x2, c2⟩, ⟨x3, c3⟩, x4, c4⟩, f0, f1, f2, f3, f4⟩ := five_all hf
        have HF := hide hf
        have HB := hide (below_nx (below_al w _) bz)
        clear hf bz
        unfold Vl.cells
        go_wp2
        refine bodyPost_ret (results_cell_row rfl _ _ _ _ _ _ _ rfl (five_set (unhide HF) _ _ _ _ _).1 Tryz.underlying29 rfl infoRef) rfl ?_
        exact ⟨rfl, below_five (unhide HB) (Nat.le_refl _) _ _ _ _ _⟩
      · have hg2 : a.tdiv b < -900000000000000 := by omega
        clear hw2
        have HC := hide (fun w => e9_ref 2 w (by omega) (by omega))
        generalize vE 2 = V at HC ⊢
        go_enter Tryz.func55, Tryz.ntmps55
        go_wp2_with fail
        refine (unhide HC _).mono ?_
        rintro e wz ⟨rfl, bz⟩
        have hf := five_below (five_new w 29 _ _ _ _ _) bz (five_lt (five_new w 29 _ _ _ _ _))
        obtain ⟨⟨⟨x0, c0⟩, ⟨x1, c1⟩, ⟨x2, c2⟩, ⟨x3, c3⟩, x4, c4⟩, f0, f1, f2, f3, f4⟩ := five_all hf
        have HF := hide hf
        have HB := hide (below_nx (below_al w _) bz)
        clear hf bz
        unfold Vl.cells
        go_wp2
        refine bodyPost_ret (results_cell_row rfl _ _ _ _ _ _ _ rfl (five_set (unhide HF) _ _ _ _ _).1 Tryz.underlying29 rfl infoRef) rfl ?_
        exact ⟨rfl, below_five (unhide HB) (Nat.le_refl _) _ _ _ _ _⟩
  rw [if_neg h_QUOTIENT]
  by_cases h_POWER : s.toList = [80, 79, 87, 69, 82]
  · rw [if_pos h_POWER]
    obtain rfl := toList_lit h_POWER
    clear h_POWER
    have HC := hide (fun w => pow9_ref a b w (by omega) (by omega))
    generalize powV a b = V at HC ⊢
    go_enter Tryz.func55, Tryz.ntmps55
    go_wp2_with fail
    refine (unhide HC _).mono ?_
    rintro e wz ⟨rfl, bz⟩
    have hf := five_below (five_new w 29 _ _ _ _ _) bz (five_lt (five_new w 29 _ _ _ _ _))
    obtain ⟨⟨⟨x0, c0⟩, ⟨x1, c1⟩, ⟨x2, c2⟩, ⟨x3, c3⟩, x4, c4⟩, f0, f1, f2, f3, f4⟩ := five_all hf
    have HF := hide hf
    have HB := hide (below_nx (below_al w _) bz)
    clear hf bz
    unfold Vl.cells
    go_wp2
    refine bodyPost_ret (results_cell_row rfl _ _ _ _ _ _ _ rfl (five_set (unhide HF) _ _ _ _ _).1 Tryz.underlying29 rfl infoRef) rfl ?_
    exact ⟨rfl, below_five (unhide HB) (Nat.le_refl _) _ _ _ _ _⟩
  rw [if_neg h_POWER]
  by_cases h_GCD : s.toList = [71, 67, 68]
  · rw [if_pos h_GCD]
    obtain rfl := toList_lit h_GCD
    clear h_GCD
    unfold gcdV
    by_cases h1 : a.tmod 10000 = 0
    rotate_left
    · rw [if_pos (Or.inl h1)]
      have HC := hide (fun w => e9_ref 2 w (by omega) (by omega))
      generalize vE 2 = V at HC ⊢
      go_enter Tryz.func55, Tryz.ntmps55
      go_wp2_with fail
      refine (unhide HC _).mono ?_
      rintro e wz ⟨rfl, bz⟩
      have hf := five_below (five_new w 29 _ _ _ _ _) bz (five_lt (five_new w 29 _ _ _ _ _))
      obtain ⟨⟨⟨x0, c0⟩, ⟨x1, c1⟩, ⟨x2, c2⟩, ⟨x3, c3⟩, x4, c4⟩, f0, f1, f2, f3, f4⟩ := five_all hf
      have HF := hide hf
      have HB := hide (below_nx (below_al w _) bz)
      clear hf bz
      unfold Vl.cells
      go_wp2
      refine bodyPost_ret (results_cell_row rfl _ _ _ _ _ _ _ rfl (five_set (unhide HF) _ _ _ _ _).1 Tryz.underlying29 rfl infoRef) rfl ?_
      exact ⟨rfl, below_five (unhide HB) (Nat.le_refl _) _ _ _ _ _⟩
    by_cases h2 : b.tmod 10000 = 0
    rotate_left
    · rw [if_pos (Or.inr (Or.inl h2))]
      have HC := hide (fun w => e9_ref 2 w (by omega) (by omega))
      generalize vE 2 = V at HC ⊢
      go_enter Tryz.func55, Tryz.ntmps55
      go_wp2_with fail
      refine (unhide HC _).mono ?_
      rintro e wz ⟨rfl, bz⟩
      have hf := five_below (five_new w 29 _ _ _ _ _) bz (five_lt (five_new w 29 _ _ _ _ _))
      obtain ⟨⟨⟨x0, c0⟩, ⟨x1, c1⟩, ⟨x2, c2⟩, ⟨x3, c3⟩, x4, c4⟩, f0, f1, f2, f3, f4⟩ := five_all hf
      have HF := hide hf
      have HB := hide (below_nx (below_al w _) bz)
      clear hf bz
      unfold Vl.cells
      go_wp2
      refine bodyPost_ret (results_cell_row rfl _ _ _ _ _ _ _ rfl (five_set (unhide HF) _ _ _ _ _).1 Tryz.underlying29 rfl infoRef) rfl ?_
      exact ⟨rfl, below_five (unhide HB) (Nat.le_refl _) _ _ _ _ _⟩
    by_cases h3 : a < 0
    · rw [if_pos (Or.inr (Or.inr (Or.inl h3)))]
      have HC := hide (fun w => e9_ref 2 w (by omega) (by omega))
      generalize vE 2 = V at HC ⊢
      go_enter Tryz.func55, Tryz.ntmps55
      go_wp2_with fail
      refine (unhide HC _).mono ?_
      rintro e wz ⟨rfl, bz⟩
      have hf := five_below (five_new w 29 _ _ _ _ _) bz (five_lt (five_new w 29 _ _ _ _ _))
      obtain ⟨⟨⟨x0, c0⟩, ⟨x1, c1⟩, ⟨x2, c2⟩, ⟨x3, c3⟩, x4, c4⟩, f0, f1, f2, f3, f4⟩ := five_all hf
      have HF := hide hf
      have HB := hide (below_nx (below_al w _) bz)
      clear hf bz
      unfold Vl.cells
      go_wp2
      refine bodyPost_ret (results_cell_row rfl _ _ _ _ _ _ _ rfl (five_set (unhide HF) _ _ _ _ _).1 Tryz.underlying29 rfl infoRef) rfl ?_
      exact ⟨rfl, below_five (unhide HB) (Nat.le_refl _) _ _ _ _ _⟩
    by_cases h4 : b < 0
    · rw [if_pos (Or.inr (Or.inr (Or.inr h4)))]
      have HC := hide (fun w => e9_ref 2 w (by omega) (by omega))
      generalize vE 2 = V at HC ⊢
      go_enter Tryz.func55, Tryz.ntmps55
      go_wp2_with fail
      refine (unhide HC _).mono ?_
      rintro e wz ⟨rfl, bz⟩
      have hf := five_below (five_new w 29 _ _ _ _ _) bz (five_lt (five_new w 29 _ _ _ _ _))
      obtain ⟨⟨⟨x0, c0⟩, ⟨x1, c1⟩, ⟨x2, c2⟩, ⟨x3, c3⟩, x4, c4⟩, f0, f1, f2, f3, f4⟩ := five_all hf
      have HF := hide hf
      have HB := hide (below_nx (below_al w _) bz)
      clear hf bz
      unfold Vl.cells
      go_wp2
      refine bodyPost_ret (results_cell_row rfl _ _ _ _ _ _ _ rfl (five_set (unhide HF) _ _ _ _ _).1 Tryz.underlying29 rfl infoRef) rfl ?_
      exact ⟨rfl, below_five (unhide HB) (Nat.le_refl _) _ _ _ _ _⟩
    rw [if_neg (by omega)]
    obtain ⟨m, rfl⟩ := Int.eq_ofNat_of_zero_le (show 0 ≤ a by omega)
    obtain ⟨n, rfl⟩ := Int.eq_ofNat_of_zero_le (show 0 ≤ b by omega)
    rw [Int.toNat_natCast, Int.toNat_natCast]
    have HF := hide (fun w => gcd9_ref n m w (by omega) (by omega))
    have HC := hide (fun w => told_ref (Nat.gcd m n : Nat) 0 w)
    rw [show toldV ((Nat.gcd m n : Nat), 0) = vN (Nat.gcd m n : Nat) from rfl] at HC
    generalize vN (Nat.gcd m n : Nat) = V at HC ⊢
    generalize ((Nat.gcd m n : Nat) : Int) = g at HF HC
    go_enter Tryz.func55, Tryz.ntmps55
    go_wp2_with fail
    refine (unhide HF _).mono ?_
    rintro e w2 ⟨rfl, b2⟩
    have HX2 := hide (five_below (five_new w 29 _ _ _ _ _) b2 (five_lt (five_new w 29 _ _ _ _ _)))
    have HB2 := hide (below_nx (below_al w _) b2)
    clear b2
    go_wp2_with fail
    refine (unhide HC _).mono ?_
    rintro e wz ⟨rfl, bz⟩
    have hf := five_below (unhide HX2) bz (five_lt (unhide HX2))
    obtain ⟨⟨⟨x0, c0⟩, ⟨x1, c1⟩, ⟨x2, c2⟩, ⟨x3, c3⟩, x4, c4⟩, f0, f1, f2, f3, f4⟩ := five_all hf
    have HF := hide hf
    have HB := hide (below_nx (unhide HB2) bz)
    clear hf bz
    unfold Vl.cells
    go_wp2
    refine bodyPost_ret (results_cell_row rfl _ _ _ _ _ _ _ rfl (five_set (unhide HF) _ _ _ _ _).1 Tryz.underlying29 rfl infoRef) rfl ?_
    exact ⟨rfl, below_five (unhide HB) (Nat.le_refl _) _ _ _ _ _⟩
  rw [if_neg h_GCD]

  simp only [not_or, ← ne_eq] at h_R
  obtain ⟨h_R1, h_R2⟩ := h_R
  replace h_R1 := ne_lit h_R1
  replace h_R2 := ne_lit h_R2
  replace h_MOD := ne_lit h_MOD
  replace h_QUOTIENT := ne_lit h_QUOTIENT
  replace h_POWER := ne_lit h_POWER
  replace h_GCD := ne_lit h_GCD
  have HFA := hide (toF_some a ha1 ha2)
  have HFB := hide (toF_some b hb1 hb2)
  have ea : ∀ w, (convert 2 119 (.int .i64 a)).run Tryz.prog w = .ok (.float .f64 (toI a)) w := fun w => by
    have e1 := run_convert_int_float (P := Tryz.prog) w 2 119 .i64 .f64 a und_i64 Tryz.underlying119
    rwa [ofInt_eq] at e1
  have eb : ∀ w, (convert 2 119 (.int .i64 b)).run Tryz.prog w = .ok (.float .f64 (toI b)) w := fun w => by
    have e1 := run_convert_int_float (P := Tryz.prog) w 2 119 .i64 .f64 b und_i64 Tryz.underlying119
    rwa [ofInt_eq] at e1
  have qa : ∀ w, (binOp .quo 119 (.float .f64 (toI a)) (.float .f64 4666723172467343360)).run Tryz.prog w = .ok (.float .f64 (toF a)) w := fun w => run_float_arith (P := Tryz.prog) w .quo 119 .f64 (toI a) 4666723172467343360 (toF a) (unhide HFA)
  have qb : ∀ w, (binOp .quo 119 (.float .f64 (toI b)) (.float .f64 4666723172467343360)).run Tryz.prog w = .ok (.float .f64 (toF b)) w := fun w => run_float_arith (P := Tryz.prog) w .quo 119 .f64 (toI b) 4666723172467343360 (toF b) (unhide HFB)
  unfold ratV
  by_cases h0 : b = 0
  · rw [if_pos h0]
    subst h0
    have qb0 := qb
    rw [← ofInt_eq] at qb0
    have HC := hide (fun w => e9_ref 1 w (by omega) (by omega))
    generalize vE 1 = V at HC ⊢
    go_enter Tryz.func55, Tryz.ntmps55
    go_wp2_with fail
    refine (unhide HC _).mono ?_
    rintro e wz ⟨rfl, bz⟩
    have hf := five_below (five_new w 29 _ _ _ _ _) bz (five_lt (five_new w 29 _ _ _ _ _))
    obtain ⟨⟨⟨x0, c0⟩, ⟨x1, c1⟩, ⟨x2, c2⟩, ⟨x3, c3⟩, x4, c4⟩, f0, f1, f2, f3, f4⟩ := five_all hf
    have HF := hide hf
    have HB := hide (below_nx (below_al w _) bz)
    clear hf bz
    unfold Vl.cells
    go_wp2
    refine bodyPost_ret (results_cell_row rfl _ _ _ _ _ _ _ rfl (five_set (unhide HF) _ _ _ _ _).1 Tryz.underlying29 rfl infoRef) rfl ?_
    exact ⟨rfl, below_five (unhide HB) (Nat.le_refl _) _ _ _ _ _⟩
  rw [if_neg h0]
  have HR := hide (ratW_some a b h0 ha1 ha2 hb1 hb2)
  have HF := hide (fun w => from9_ref (ratW a b) w (unhide HR).2)
  have HC := hide (fun w => told_ref (frN (ratW a b)) (frE (ratW a b)) w)
  generalize toldV (frN (ratW a b), frE (ratW a b)) = V at HC ⊢
  generalize frN (ratW a b) = g1 at HF HC
  generalize frE (ratW a b) = g2 at HF HC
  have qc : ∀ w, (binOp .quo 119 (.float .f64 (toF a)) (.float .f64 (toF b))).run Tryz.prog w = .ok (.float .f64 (ratW a b)) w := fun w => run_float_arith (P := Tryz.prog) w .quo 119 .f64 (toF a) (toF b) (ratW a b) (unhide HR).1
  have qd : ∀ w, (callFunc 111 #[.float .f64 (ratW a b)]).run Tryz.prog w = .ok (.value (.int .u64 (ratW a b : Nat))) w := fun w => call_bits (ratW a b) w
  go_enter Tryz.func55, Tryz.ntmps55
  go_wp2_with fail
  refine (unhide HF _).mono ?_
  rintro e w2 ⟨rfl, b2⟩
  have HX2 := hide (five_below (five_new w 29 _ _ _ _ _) b2 (five_lt (five_new w 29 _ _ _ _ _)))
  have HB2 := hide (below_nx (below_al w _) b2)
  clear b2
  go_wp2_with fail
  refine (unhide HC _).mono ?_
  rintro e wz ⟨rfl, bz⟩
  have hf := five_below (unhide HX2) bz (five_lt (unhide HX2))
  obtain ⟨⟨⟨x0, c0⟩, ⟨x1, c1⟩, ⟨x2, c2⟩, ⟨x3, c3⟩, x4, c4⟩, f0, f1, f2, f3, f4⟩ := five_all hf
  have HF := hide hf
  have HB := hide (below_nx (unhide HB2) bz)
  clear hf bz
  unfold Vl.cells
  go_wp2
  refine bodyPost_ret (results_cell_row rfl _ _ _ _ _ _ _ rfl (five_set (unhide HF) _ _ _ _ _).1 Tryz.underlying29 rfl infoRef) rfl ?_
  exact ⟨rfl, below_five (unhide HB) (Nat.le_refl _) _ _ _ _ _⟩
end Go.Proofs.YtbeijnflfmjgfaaGreatDoor

namespace Go.Proofs.YtbeijnflfmjgfaaGreatDoor
open Go.RowKit

theorem sound_good (v : Vl) : vGood (vSound v) = true := by
  unfold vSound
  cases h : vGood v
  · rw [if_neg (by decide), vE_in 3 (by omega), vGood4, noText_list]; rfl
  · rw [if_pos rfl]; exact h
theorem num_zero (u : Vl) (h : vGood u = true) (hk : u.kind ≠ 1) : u.num = 0 := by
  obtain ⟨k, n, s, b, f⟩ := u
  simp only [] at hk ⊢
  by_cases k0 : k = 0
  · subst k0; rw [vGood0] at h; simp at h; exact h.1.1.1
  · by_cases k2 : k = 2
    · subst k2; rw [vGood2] at h; simp at h; exact h.1.1.1
    · by_cases k3 : k = 3
      · subst k3; rw [vGood3] at h; simp at h; exact h.1.1
      · by_cases k4 : k = 4
        · subst k4; rw [vGood4] at h; simp at h; exact h.1.1.1.1
        · rw [good_else k n s b f k0 hk k2 k3 k4] at h; cases h
def dR (p : UInt8 → Bool) (l : List UInt8) : List UInt8 := (l.reverse.dropWhile p).reverse
theorem dR_cons (p : UInt8 → Bool) (a : UInt8) (l : List UInt8) : dR p (a :: l) = if dR p l = [] then (if p a = true then [] else [a]) else a :: dR p l := by
  unfold dR
  rw [List.reverse_cons, List.dropWhile_append]
  by_cases h : List.dropWhile p l.reverse = []
  · rw [h]; cases hp : p a <;> simp [hp]
  · rw [if_neg (by simpa using h), if_neg (by simpa using h)]; simp
theorem dR_comm (p : UInt8 → Bool) (l : List UInt8) : (dR p l).dropWhile p = dR p (l.dropWhile p) := by
  induction l with
  | nil => rfl
  | cons a l ih =>
    rw [dR_cons]
    cases hp : p a
    · rw [List.dropWhile_cons_of_neg (by simp [hp]), dR_cons, hp]
      by_cases h : dR p l = []
      · rw [if_pos h, if_neg (by decide), List.dropWhile_cons_of_neg (by simp [hp])]
      · rw [if_neg h, List.dropWhile_cons_of_neg (by simp [hp])]
    · rw [List.dropWhile_cons_of_pos hp, if_pos rfl]
      by_cases h : dR p l = []
      · rw [if_pos h, ← ih, h]
      · rw [if_neg h, List.dropWhile_cons_of_pos hp, ih]
theorem is32 : (fun c : UInt8 => c == 32) = (fun c : UInt8 => c.toNat == 32) := by
  funext c
  by_cases h : c = 32
  · subst h; rfl
  · rw [beq_eq_false_iff_ne.mpr h, Eq.comm, beq_eq_false_iff_ne]
    intro h2; exact h (UInt8.toNat_inj.mp h2)
theorem trim_bare (s : ByteArray) : (⟨(Lib.trimB s.data.toList 32).toArray⟩ : ByteArray) = bareV s := by
  unfold bareV Lib.trimB Lib.trimLeftB Lib.trimRightB dl
  have h := dR_comm (fun c : UInt8 => c == 32) s.data.toList
  unfold dR at h
  rw [h, is32]

theorem trim_val (s : ByteArray) (w : World) (hs : s.size ≤ 1000000) :
    Calls Tryz.prog 118 #[.string s, .string ⟨#[32]⟩] w fun e w' => e = .returned (.string (bareV s)) ∧ Below w.heap.size w w' := by
  refine (Tryz.strings_Trim_one s 32 (by decide) w (by omega)).mono ?_
  rintro e w' ⟨rfl, hw⟩
  refine ⟨by rw [trim_bare], ?_⟩
  rcases hw with rfl | rfl
  · exact Below.refl _ _
  · exact (Below.refl _ _).drew

set_option maxRecDepth 100000 in
set_option maxHeartbeats 4000000 in
theorem asnum_val (v : Vl) (w : World) (hs : v.text.size ≤ 1000) (he : Env3 w) :
    Calls Tryz.prog 63 #[.agg v.cells] w fun e w' => e = .returned (.tuple #[.int .i64 (asNumV (vSound v)).1, .int .i64 (asNumV (vSound v)).2]) ∧ Below w.heap.size w w' := by
  have HE := hide he
  clear he
  obtain ⟨u, hu⟩ : ∃ u, vSound v = u := ⟨_, rfl⟩
  have HS := hide (fun w => counted_val v w (by omega))
  have HTX : Hid (u.text.size ≤ 1000) := hide (by rw [← hu]; exact sound_size2 v hs)
  have HG : Hid (vGood u = true) := hide (by rw [← hu]; exact sound_good v)
  rw [hu] at HS ⊢
  clear hu
  unfold Vl.cells at HS ⊢
  cases h2 : (u.kind == 2)
  · have n2 : u.kind ≠ 2 := by rw [beq_eq_false_iff_ne] at h2; exact h2
    cases h3 : (u.kind == 3)
    · have n3 : u.kind ≠ 3 := by rw [beq_eq_false_iff_ne] at h3; exact h3
      cases h4 : (u.kind == 4)
      · have n4 : u.kind ≠ 4 := by rw [beq_eq_false_iff_ne] at h4; exact h4
        have E : Hid (asNumV u = (u.num, 0)) := hide (by
          unfold asNumV
          by_cases n1 : u.kind = 1
          · rw [if_pos n1]
          · rw [if_neg n1, if_neg n2, if_neg n3, if_neg n4, num_zero u (unhide HG) n1])
        clear n2 n3 n4
        go_enter Tryz.func63, Tryz.ntmps63
        go_wp2_with fail
        refine (unhide HS _).mono ?_
        rintro e w1 ⟨rfl, b1⟩
        have hf := five_below (five_new w 28 (.int .i64 v.kind) (.int .i64 v.num) (.string v.text) (.bool v.tr) (.int .i64 v.fail)) b1 (by simp)
        have HB := hide (below_five ((below_al w (.cells #[.int .i64 v.kind, .int .i64 v.num, .string v.text, .bool v.tr, .int .i64 v.fail] 28)).trans (b1.mono (by simp))) (Nat.le_refl _) (.int .i64 u.kind) (.int .i64 u.num) (.string u.text) (.bool u.tr) (.int .i64 u.fail))
        have HF := hide (five_set hf (.int .i64 u.kind) (.int .i64 u.num) (.string u.text) (.bool u.tr) (.int .i64 u.fail))
        obtain ⟨x0, c0⟩ := five_c hf 0 (by omega)
        obtain ⟨x1, c1⟩ := five_c hf 1 (by omega)
        obtain ⟨x2, c2⟩ := five_c hf 2 (by omega)
        obtain ⟨x3, c3⟩ := five_c hf 3 (by omega)
        obtain ⟨x4, c4⟩ := five_c hf 4 (by omega)
        have f0 := five_f hf 0
        have f1 := five_f hf 1
        have f2 := five_f hf 2
        have f3 := five_f hf 3
        have f4 := five_f hf 4
        clear hf b1
        go_wp2
        try go_region
        all_goals (try go_wp2_with fail)
        all_goals go_ret2
        all_goals first | exact ⟨pair_n (unhide E), unhide HB⟩ | exact ⟨pair_n (unhide E), (unhide HB).drew⟩
      · have k4 : u.kind = 4 := by rw [beq_iff_eq] at h4; exact h4
        have E : Hid (asNumV u = (0, u.fail)) := hide (by unfold asNumV; rw [if_neg (by omega), if_neg n2, if_neg n3, if_pos k4])
        clear n2 n3 k4
        go_enter Tryz.func63, Tryz.ntmps63
        go_wp2_with fail
        refine (unhide HS _).mono ?_
        rintro e w1 ⟨rfl, b1⟩
        have hf := five_below (five_new w 28 (.int .i64 v.kind) (.int .i64 v.num) (.string v.text) (.bool v.tr) (.int .i64 v.fail)) b1 (by simp)
        have HB := hide (below_five ((below_al w (.cells #[.int .i64 v.kind, .int .i64 v.num, .string v.text, .bool v.tr, .int .i64 v.fail] 28)).trans (b1.mono (by simp))) (Nat.le_refl _) (.int .i64 u.kind) (.int .i64 u.num) (.string u.text) (.bool u.tr) (.int .i64 u.fail))
        have HF := hide (five_set hf (.int .i64 u.kind) (.int .i64 u.num) (.string u.text) (.bool u.tr) (.int .i64 u.fail))
        obtain ⟨x0, c0⟩ := five_c hf 0 (by omega)
        obtain ⟨x1, c1⟩ := five_c hf 1 (by omega)
        obtain ⟨x2, c2⟩ := five_c hf 2 (by omega)
        obtain ⟨x3, c3⟩ := five_c hf 3 (by omega)
        obtain ⟨x4, c4⟩ := five_c hf 4 (by omega)
        have f0 := five_f hf 0
        have f1 := five_f hf 1
        have f2 := five_f hf 2
        have f3 := five_f hf 3
        have f4 := five_f hf 4
        clear hf b1
        go_wp2
        try go_region
        all_goals (try go_wp2_with fail)
        all_goals go_ret2
        all_goals first | exact ⟨pair_n (unhide E), unhide HB⟩ | exact ⟨pair_n (unhide E), (unhide HB).drew⟩
    · have k3 : u.kind = 3 := by rw [beq_iff_eq] at h3; exact h3
      have E : Hid (asNumV u = (if u.tr = true then 10000 else 0, 0)) := hide (by unfold asNumV; rw [if_neg (by omega), if_neg n2, if_pos k3])
      have HN : Hid (u.num = 0) := hide (num_zero u (unhide HG) (by omega))
      clear n2 k3
      cases hb : u.tr
      · replace E : Hid (asNumV u = (u.num, 0)) := hide (by rw [unhide E, hb, unhide HN]; rfl)
        go_enter Tryz.func63, Tryz.ntmps63
        go_wp2_with fail
        refine (unhide HS _).mono ?_
        rintro e w1 ⟨rfl, b1⟩
        have hf := five_below (five_new w 28 (.int .i64 v.kind) (.int .i64 v.num) (.string v.text) (.bool v.tr) (.int .i64 v.fail)) b1 (by simp)
        have HB := hide (below_five ((below_al w (.cells #[.int .i64 v.kind, .int .i64 v.num, .string v.text, .bool v.tr, .int .i64 v.fail] 28)).trans (b1.mono (by simp))) (Nat.le_refl _) (.int .i64 u.kind) (.int .i64 u.num) (.string u.text) (.bool u.tr) (.int .i64 u.fail))
        have HF := hide (five_set hf (.int .i64 u.kind) (.int .i64 u.num) (.string u.text) (.bool u.tr) (.int .i64 u.fail))
        obtain ⟨x0, c0⟩ := five_c hf 0 (by omega)
        obtain ⟨x1, c1⟩ := five_c hf 1 (by omega)
        obtain ⟨x2, c2⟩ := five_c hf 2 (by omega)
        obtain ⟨x3, c3⟩ := five_c hf 3 (by omega)
        obtain ⟨x4, c4⟩ := five_c hf 4 (by omega)
        have f0 := five_f hf 0
        have f1 := five_f hf 1
        have f2 := five_f hf 2
        have f3 := five_f hf 3
        have f4 := five_f hf 4
        clear hf b1
        rw [hb] at HB HF
        go_wp2
        try go_region
        all_goals (try go_wp2_with fail)
        all_goals go_ret2
        all_goals first | exact ⟨pair_n (unhide E), unhide HB⟩ | exact ⟨pair_n (unhide E), (unhide HB).drew⟩
      · rw [hb] at E
        go_enter Tryz.func63, Tryz.ntmps63
        go_wp2_with fail
        refine (unhide HS _).mono ?_
        rintro e w1 ⟨rfl, b1⟩
        have hf := five_below (five_new w 28 (.int .i64 v.kind) (.int .i64 v.num) (.string v.text) (.bool v.tr) (.int .i64 v.fail)) b1 (by simp)
        have HB := hide (below_five ((below_al w (.cells #[.int .i64 v.kind, .int .i64 v.num, .string v.text, .bool v.tr, .int .i64 v.fail] 28)).trans (b1.mono (by simp))) (Nat.le_refl _) (.int .i64 u.kind) (.int .i64 u.num) (.string u.text) (.bool u.tr) (.int .i64 u.fail))
        have HF := hide (five_set hf (.int .i64 u.kind) (.int .i64 u.num) (.string u.text) (.bool u.tr) (.int .i64 u.fail))
        obtain ⟨x0, c0⟩ := five_c hf 0 (by omega)
        obtain ⟨x1, c1⟩ := five_c hf 1 (by omega)
        obtain ⟨x2, c2⟩ := five_c hf 2 (by omega)
        obtain ⟨x3, c3⟩ := five_c hf 3 (by omega)
        obtain ⟨x4, c4⟩ := five_c hf 4 (by omega)
        have f0 := five_f hf 0
        have f1 := five_f hf 1
        have f2 := five_f hf 2
        have f3 := five_f hf 3
        have f4 := five_f hf 4
        clear hf b1
        rw [hb] at HB HF
        go_wp2
        try go_region
        all_goals (try go_wp2_with fail)
        all_goals go_ret2
        all_goals first | exact ⟨pair_n (unhide E), unhide HB⟩ | exact ⟨pair_n (unhide E), (unhide HB).drew⟩
  · have k2 : u.kind = 2 := by rw [beq_iff_eq] at h2; exact h2
    have E : Hid (asNumV u = (if ((parseR (bareV u.text).data.toList).2 != 0) = true then (0, 3) else ((parseR (bareV u.text).data.toList).1, 0))) := hide (by unfold asNumV; rw [if_neg (by omega), if_pos k2])
    clear k2
    go_enter Tryz.func63, Tryz.ntmps63
    go_wp2_with fail
    refine (unhide HS _).mono ?_
    rintro e w1 ⟨rfl, b1⟩
    have hf := five_below (five_new w 28 (.int .i64 v.kind) (.int .i64 v.num) (.string v.text) (.bool v.tr) (.int .i64 v.fail)) b1 (by simp)
    have HB := hide (below_five ((below_al w (.cells #[.int .i64 v.kind, .int .i64 v.num, .string v.text, .bool v.tr, .int .i64 v.fail] 28)).trans (b1.mono (by simp))) (Nat.le_refl _) (.int .i64 u.kind) (.int .i64 u.num) (.string u.text) (.bool u.tr) (.int .i64 u.fail))
    have HF := hide (five_set hf (.int .i64 u.kind) (.int .i64 u.num) (.string u.text) (.bool u.tr) (.int .i64 u.fail))
    obtain ⟨x0, c0⟩ := five_c hf 0 (by omega)
    obtain ⟨x1, c1⟩ := five_c hf 1 (by omega)
    obtain ⟨x2, c2⟩ := five_c hf 2 (by omega)
    obtain ⟨x3, c3⟩ := five_c hf 3 (by omega)
    obtain ⟨x4, c4⟩ := five_c hf 4 (by omega)
    have f0 := five_f hf 0
    have f1 := five_f hf 1
    have f2 := five_f hf 2
    have f3 := five_f hf 3
    have f4 := five_f hf 4
    clear hf b1
    go_wp2_with fail
    refine (trim_val u.text _ (by have := unhide HTX; omega)).mono ?_
    rintro e w2 ⟨rfl, b2⟩
    replace HB := hide (below_nx (unhide HB) b2)
    clear b2
    go_wp2_with fail
    refine (parse_any (bareV u.text) _ (by have := unhide HTX; have := bare_size u.text; omega) ((unhide HE).below (unhide HB)).len).mono ?_
    rintro e w3 ⟨rfl, b3⟩
    replace HB := hide (below_nx (unhide HB) b3)
    clear b3
    obtain ⟨r, hr⟩ : ∃ r, parseR (bareV u.text).data.toList = r := ⟨_, rfl⟩
    rw [hr] at E ⊢
    clear hr
    obtain ⟨p, q⟩ := r
    simp only [] at E ⊢
    cases e1 : (q != 0)
    · rw [e1] at E
      go_wp2
      try go_region
      all_goals (try go_wp2_with fail)
      all_goals go_ret2
      all_goals first | exact ⟨pair_n (unhide E), unhide HB⟩ | exact ⟨pair_n (unhide E), (unhide HB).drew⟩
    · rw [e1] at E
      go_wp2
      try go_region
      all_goals (try go_wp2_with fail)
      all_goals go_ret2
      all_goals first | exact ⟨pair_n (unhide E), unhide HB⟩ | exact ⟨pair_n (unhide E), (unhide HB).drew⟩
end Go.Proofs.YtbeijnflfmjgfaaGreatDoor

namespace Go.Proofs.YtbeijnflfmjgfaaGreatDoor
open Go.RowKit

set_option maxRecDepth 100000 in
set_option maxHeartbeats 4000000 in
theorem astext_val (v : Vl) (w : World) (hs : v.text.size ≤ 1000) (he : Env3 w) :
    Calls Tryz.prog 71 #[.agg v.cells] w fun e w' => e = .returned (.tuple #[.string (asTextV (vSound v)).1, .int .i64 (asTextV (vSound v)).2]) ∧ Below w.heap.size w w' := by
  have HE := hide he
  clear he
  obtain ⟨u, hu⟩ : ∃ u, vSound v = u := ⟨_, rfl⟩
  have HS := hide (fun w => counted_val v w (by omega))
  have HTX : Hid (u.text.size ≤ 1000) := hide (by rw [← hu]; exact sound_size2 v hs)
  have HG : Hid (vGood u = true) := hide (by rw [← hu]; exact sound_good v)
  have HSS : Hid (vSound u = u) := hide (by rw [← hu]; exact sound_idem v)
  rw [hu] at HS ⊢
  clear hu
  unfold Vl.cells at HS ⊢
  cases h4 : (u.kind == 4)
  · have n4 : u.kind ≠ 4 := by rw [beq_eq_false_iff_ne] at h4; exact h4
    have E : Hid (asTextV u = (showV u, 0)) := hide (by unfold asTextV; rw [if_neg n4])
    clear n4
    go_enter Tryz.func71, Tryz.ntmps71
    go_wp2_with fail
    refine (unhide HS _).mono ?_
    rintro e w1 ⟨rfl, b1⟩
    have hf := five_below (five_new w 28 (.int .i64 v.kind) (.int .i64 v.num) (.string v.text) (.bool v.tr) (.int .i64 v.fail)) b1 (by simp)
    have HB := hide (below_five ((below_al w (.cells #[.int .i64 v.kind, .int .i64 v.num, .string v.text, .bool v.tr, .int .i64 v.fail] 28)).trans (b1.mono (by simp))) (Nat.le_refl _) (.int .i64 u.kind) (.int .i64 u.num) (.string u.text) (.bool u.tr) (.int .i64 u.fail))
    have HF := hide (five_set hf (.int .i64 u.kind) (.int .i64 u.num) (.string u.text) (.bool u.tr) (.int .i64 u.fail))
    obtain ⟨x0, c0⟩ := five_c hf 0 (by omega)
    obtain ⟨x1, c1⟩ := five_c hf 1 (by omega)
    obtain ⟨x2, c2⟩ := five_c hf 2 (by omega)
    obtain ⟨x3, c3⟩ := five_c hf 3 (by omega)
    obtain ⟨x4, c4⟩ := five_c hf 4 (by omega)
    have f0 := five_f hf 0
    have f1 := five_f hf 1
    have f2 := five_f hf 2
    have f3 := five_f hf 3
    have f4 := five_f hf 4
    clear hf b1
    go_wp2_with fail
    refine (show_val u _ (by have := unhide HTX; omega) ((unhide HE).below (unhide HB))).mono ?_
    rintro e w2 ⟨rfl, b2⟩
    rw [unhide HSS]
    replace HB := hide (below_nx (unhide HB) b2)
    clear b2
    go_wp2
    try go_region
    all_goals (try go_wp2_with fail)
    all_goals go_ret2
    all_goals first | exact ⟨pair_s (unhide E), unhide HB⟩ | exact ⟨pair_s (unhide E), (unhide HB).drew⟩
  · have k4 : u.kind = 4 := by rw [beq_iff_eq] at h4; exact h4
    have E : Hid (asTextV u = (noText, u.fail)) := hide (by unfold asTextV; rw [if_pos k4])
    clear k4
    go_enter Tryz.func71, Tryz.ntmps71
    go_wp2_with fail
    refine (unhide HS _).mono ?_
    rintro e w1 ⟨rfl, b1⟩
    have hf := five_below (five_new w 28 (.int .i64 v.kind) (.int .i64 v.num) (.string v.text) (.bool v.tr) (.int .i64 v.fail)) b1 (by simp)
    have HB := hide (below_five ((below_al w (.cells #[.int .i64 v.kind, .int .i64 v.num, .string v.text, .bool v.tr, .int .i64 v.fail] 28)).trans (b1.mono (by simp))) (Nat.le_refl _) (.int .i64 u.kind) (.int .i64 u.num) (.string u.text) (.bool u.tr) (.int .i64 u.fail))
    have HF := hide (five_set hf (.int .i64 u.kind) (.int .i64 u.num) (.string u.text) (.bool u.tr) (.int .i64 u.fail))
    obtain ⟨x0, c0⟩ := five_c hf 0 (by omega)
    obtain ⟨x1, c1⟩ := five_c hf 1 (by omega)
    obtain ⟨x2, c2⟩ := five_c hf 2 (by omega)
    obtain ⟨x3, c3⟩ := five_c hf 3 (by omega)
    obtain ⟨x4, c4⟩ := five_c hf 4 (by omega)
    have f0 := five_f hf 0
    have f1 := five_f hf 1
    have f2 := five_f hf 2
    have f3 := five_f hf 3
    have f4 := five_f hf 4
    clear hf b1
    go_wp2
    try go_region
    all_goals (try go_wp2_with fail)
    all_goals go_ret2
    all_goals first | exact ⟨pair_s (unhide E), unhide HB⟩ | exact ⟨pair_s (unhide E), (unhide HB).drew⟩
end Go.Proofs.YtbeijnflfmjgfaaGreatDoor

namespace Go.Proofs.YtbeijnflfmjgfaaGreatDoor
open Go.RowKit

set_option maxHeartbeats 1000000 in
theorem nan_kind (a : Int) (w : World) : Calls Tryz.prog 164 #[.int .i64 a] w fun e w' => e = .returned (.bool false) ∧ w' = w := by
  go_enter Tryz.func164, Tryz.ntmps164
  go_wp2
  go_ret
  exact ⟨rfl, rfl⟩
set_option maxHeartbeats 1000000 in
theorem cmp_kind (a b : Int) (w : World) : Calls Tryz.prog 120 #[.int .i64 a, .int .i64 b] w fun e w' => e = .returned (.int .i64 (cmpV a b)) ∧ w' = w := by
  have HN := hide nan_kind
  unfold cmpV
  by_cases h : a < b
  · rw [if_pos h]
    go_enter Tryz.func120, Tryz.ntmps120
    go_wp2_with fail
    refine (unhide HN a _).mono ?_
    rintro e w1 ⟨rfl, rfl⟩
    go_wp2_with fail
    refine (unhide HN b _).mono ?_
    rintro e w2 ⟨rfl, rfl⟩
    go_wp2
    go_ret
    exact ⟨rfl, rfl⟩
  · rw [if_neg h]
    by_cases h2 : b < a
    · rw [if_pos h2]
      go_enter Tryz.func120, Tryz.ntmps120
      go_wp2_with fail
      refine (unhide HN a _).mono ?_
      rintro e w1 ⟨rfl, rfl⟩
      go_wp2_with fail
      refine (unhide HN b _).mono ?_
      rintro e w2 ⟨rfl, rfl⟩
      go_wp2
      go_ret
      exact ⟨rfl, rfl⟩
    · rw [if_neg h2]
      obtain rfl : a = b := by omega
      go_enter Tryz.func120, Tryz.ntmps120
      go_wp2_with fail
      refine (unhide HN a _).mono ?_
      rintro e w1 ⟨rfl, rfl⟩
      go_wp2_with fail
      refine (unhide HN a _).mono ?_
      rintro e w2 ⟨rfl, rfl⟩
      go_wp2
      go_ret
      exact ⟨rfl, rfl⟩
set_option maxHeartbeats 1000000 in
theorem nan_num (a : Int) (w : World) : Calls Tryz.prog 167 #[.int .i64 a] w fun e w' => e = .returned (.bool false) ∧ w' = w := by
  go_enter Tryz.func167, Tryz.ntmps167
  go_wp2
  go_ret
  exact ⟨rfl, rfl⟩
set_option maxHeartbeats 1000000 in
theorem cmp_num (a b : Int) (w : World) : Calls Tryz.prog 123 #[.int .i64 a, .int .i64 b] w fun e w' => e = .returned (.int .i64 (cmpV a b)) ∧ w' = w := by
  have HN := hide nan_num
  unfold cmpV
  by_cases h : a < b
  · rw [if_pos h]
    go_enter Tryz.func123, Tryz.ntmps123
    go_wp2_with fail
    refine (unhide HN a _).mono ?_
    rintro e w1 ⟨rfl, rfl⟩
    go_wp2_with fail
    refine (unhide HN b _).mono ?_
    rintro e w2 ⟨rfl, rfl⟩
    go_wp2
    go_ret
    exact ⟨rfl, rfl⟩
  · rw [if_neg h]
    by_cases h2 : b < a
    · rw [if_pos h2]
      go_enter Tryz.func123, Tryz.ntmps123
      go_wp2_with fail
      refine (unhide HN a _).mono ?_
      rintro e w1 ⟨rfl, rfl⟩
      go_wp2_with fail
      refine (unhide HN b _).mono ?_
      rintro e w2 ⟨rfl, rfl⟩
      go_wp2
      go_ret
      exact ⟨rfl, rfl⟩
    · rw [if_neg h2]
      obtain rfl : a = b := by omega
      go_enter Tryz.func123, Tryz.ntmps123
      go_wp2_with fail
      refine (unhide HN a _).mono ?_
      rintro e w1 ⟨rfl, rfl⟩
      go_wp2_with fail
      refine (unhide HN a _).mono ?_
      rintro e w2 ⟨rfl, rfl⟩
      go_wp2
      go_ret
      exact ⟨rfl, rfl⟩

theorem five_new3 (w : World) (o p : Obj) (t : TypeId) (a b c d e : Value) : FiveAt (((w.alloc o).alloc p).alloc (.cells #[a, b, c, d, e] t)) (w.heap.size + 1 + 1) t #[a, b, c, d, e] := by
  refine ⟨?_, rfl⟩
  have h := heap_alloc_new ((w.alloc o).alloc p) (.cells #[a, b, c, d, e] t)
  rw [show ((w.alloc o).alloc p).heap.size = w.heap.size + 1 + 1 by show ((w.heap.push o).push p).size = _; simp] at h
  exact h
theorem below_al3 (w : World) (o p q : Obj) : Below w.heap.size w (((w.alloc o).alloc p).alloc q) := (below_al2 w o p).alloc (by simp; omega) _
theorem cmp_lt (l m : List UInt8) : Lib.compareBytes l m = ltL l m := by
  induction l generalizing m with
  | nil => cases m <;> rfl
  | cons a l ih =>
    cases m with
    | nil => rfl
    | cons b m =>
      unfold Lib.compareBytes ltL
      rw [ih]
      rfl
theorem textcmp_val (s t : ByteArray) (w : World) :
    Calls Tryz.prog 121 #[.string s, .string t] w fun e w' => e = .returned (.int .i64 (ltL s.data.toList t.data.toList)) ∧ w' = w := by
  rw [← cmp_lt]
  exact Tryz.strings_Compare s t w
def besV (u x : Vl) : Vl := if u.kind = 0 then bl x.kind else u
set_option maxHeartbeats 2000000 in
theorem beside_val (u x : Vl) (w : World) :
    Calls Tryz.prog 119 #[.agg u.cells, .agg x.cells] w fun e w' => e = .returned (.agg (besV u x).cells) ∧ Below w.heap.size w w' := by
  unfold besV bl
  by_cases h : u.kind = 0
  · rw [if_pos h]
    obtain ⟨k, n, s, b, f⟩ := u
    simp only [] at h
    subst h
    unfold Vl.cells
    simp only []
    go_enter Tryz.func119, Tryz.ntmps119
    go_wp2
    refine bodyPost_ret (results_cell_row rfl _ _ _ _ _ _ _ rfl (five_new3 w _ _ _ _ _ _ _ _).1 Tryz.underlying28 rfl infoVal) rfl ?_
    exact ⟨rfl, below_al3 _ _ _ _⟩
  · rw [if_neg h]
    have hb : (u.kind == 0) = false := by rw [beq_eq_false_iff_ne]; exact h
    clear h
    unfold Vl.cells
    go_enter Tryz.func119, Tryz.ntmps119
    go_wp2
    refine bodyPost_ret (results_cell_row rfl _ _ _ _ _ _ _ rfl (five_new3 w _ _ _ _ _ _ _ _).1 Tryz.underlying28 rfl infoVal) rfl ?_
    exact ⟨rfl, below_al3 _ _ _ _⟩
end Go.Proofs.YtbeijnflfmjgfaaGreatDoor
