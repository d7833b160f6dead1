/- The contract of Ratio: the class of the quotient. -/
import Derived.Test.YtnlhgehibbgmoaaLfB
namespace Go.Proofs.Ytnlhgehibbgmoaa
open Go.RowKit

def ratC (a b : Int) : Int :=
  if b = 0 then (if a = 0 then 0 else if a < 0 then 1 else 6) else if a = 0 then (if b < 0 then 3 else 4) else if decide (a < 0) = decide (b < 0) then 5 else 2

theorem cls_word (s : Bool) (r : Nat) (h : r < 9223372036854775808) : clsV (Fl.wordOf s r) =
    (if 9218868437227405312 < r then 0 else if r = 9218868437227405312 then (if s = true then 1 else 6) else if r = 0 then (if s = true then 3 else 4) else if s = true then 2 else 5) := by
  unfold clsV
  rw [Fl.sgn_word s r h, Fl.rng_word s r h]

theorem quo_both (a b : Int) (a0 : a ≠ 0) (b0 : b ≠ 0) (a1 : -9000000000000000000 ≤ a) (a2 : a ≤ 9000000000000000000) (b1 : -9000000000000000000 ≤ b) (b2 : b ≤ 9000000000000000000) :
    ∃ r, Ieee.double.div (toF a) (toF b) = some r ∧ r < 18446744073709551616 ∧ clsV r = ratC a b := by
  obtain ⟨d, k, _, e, k1, k2, d1, d2⟩ := toF_norm a a0 a1 a2
  obtain ⟨d', k', _, e', k1', k2', d1', d2'⟩ := toF_norm b b0 b1 b2
  have r1 : Fl.rng (toF a) = d * 4503599627370496 + k := by rw [e]; exact Fl.rng_word _ _ (by omega)
  have r2 : Fl.rng (toF b) = d' * 4503599627370496 + k' := by rw [e']; exact Fl.rng_word _ _ (by omega)
  have s1 : Fl.sgn (toF a) = decide (a < 0) := by rw [e]; exact Fl.sgn_word _ _ (by omega)
  have s2 : Fl.sgn (toF b) = decide (b < 0) := by rw [e']; exact Fl.sgn_word _ _ (by omega)
  have m1 : d ≤ Fl.mk (Fl.rng (toF a)) ∧ Fl.mk (Fl.rng (toF a)) ≤ d + 1 := by rw [r1]; unfold Fl.mk; omega
  have m2 : d' ≤ Fl.mk (Fl.rng (toF b)) ∧ Fl.mk (Fl.rng (toF b)) ≤ d' + 1 := by rw [r2]; unfold Fl.mk; omega
  obtain ⟨D, K, c, f1, f2, f3, f4, f5, f6, _, _⟩ := Fl.div_norm (toF a) (toF b) (by rw [r1]; omega) (by rw [r1]; omega) (by rw [r2]; omega) (by rw [r2]; omega) (by omega) (by omega)
  rw [s1, s2] at f1
  have hD : D ≤ 1200 := by omega
  refine ⟨_, f1, Fl.word_lt _ _ (by omega), ?_⟩
  rw [cls_word _ _ (by omega), if_neg (by omega), if_neg (by omega), if_neg (by omega)]
  unfold ratC
  rw [if_neg b0, if_neg a0]
  cases decide (a < 0) <;> cases decide (b < 0) <;> rfl
theorem toF_pos (a : Int) (a0 : a ≠ 0) (a1 : -9000000000000000000 ≤ a) (a2 : a ≤ 9000000000000000000) : Fl.rng (toF a) < 9218868437227405312 ∧ Fl.mm (Fl.rng (toF a)) ≠ 0 ∧ Fl.sgn (toF a) = decide (a < 0) := by
  obtain ⟨d, k, _, e, k1, k2, d1, d2⟩ := toF_norm a a0 a1 a2
  have r1 : Fl.rng (toF a) = d * 4503599627370496 + k := by rw [e]; exact Fl.rng_word _ _ (by omega)
  have s1 : Fl.sgn (toF a) = decide (a < 0) := by rw [e]; exact Fl.sgn_word _ _ (by omega)
  have := Fl.mm_ge (Fl.rng (toF a)) (by rw [r1]; omega)
  exact ⟨by rw [r1]; omega, by omega, s1⟩
theorem quo_low (b : Int) (b0 : b ≠ 0) (b1 : -9000000000000000000 ≤ b) (b2 : b ≤ 9000000000000000000) :
    ∃ r, Ieee.double.div (toF 0) (toF b) = some r ∧ r < 18446744073709551616 ∧ clsV r = ratC 0 b := by
  obtain ⟨h1, h2, h3⟩ := toF_pos b b0 b1 b2
  refine ⟨Fl.wordOf (decide (b < 0)) 0, ?_, Fl.word_lt _ _ (by decide), ?_⟩
  · rw [toF_zero]
    unfold Ieee.Format.div
    rw [Fl.read_fin 0 (by decide), Fl.read_fin (toF b) h1, h3, show Fl.sgn 0 = false from by decide, show Fl.mm (Fl.rng 0) = 0 from by decide]
    generalize Fl.mm (Fl.rng (toF b)) = n at *
    generalize Fl.mk (Fl.rng (toF b)) = j
    generalize Fl.mk (Fl.rng 0) = i
    show ((if n = 0 then (if (0 : Nat) = 0 then none else some (Ieee.Datum.infinity (false ^^ decide (b < 0)))) else some (Ieee.Datum.number (false ^^ decide (b < 0)) (2 * (0 <<< (Ieee.double.fractionBits + 2 + n.log2 - (0 : Nat).log2) / n) + (0 <<< (Ieee.double.fractionBits + 2 + n.log2 - (0 : Nat).log2) % n != 0).toNat) ((-1074 + (i : Int)) - (-1074 + (j : Int)) - ((Ieee.double.fractionBits + 2 + n.log2 - (0 : Nat).log2 : Nat) : Int) - 1))).map Ieee.double.write) = _
    rw [if_neg h2, Nat.zero_shiftLeft, Nat.zero_div, Nat.zero_mod]
    show some (Ieee.double.nearest (false ^^ decide (b < 0)) (2 * 0 + 0) _) = _
    unfold Ieee.Format.nearest
    rw [if_pos rfl, Bool.false_xor]
    refine congrArg some ?_
    unfold Ieee.Format.word Fl.wordOf
    rw [Fl.sw]
  · rw [cls_word _ _ (by decide), if_neg (by decide), if_neg (by decide), if_pos rfl]
    unfold ratC
    rw [if_neg b0, if_pos rfl]
    by_cases h : b < 0
    · rw [decide_eq_true h, if_pos rfl, if_pos h]
    · rw [decide_eq_false h, if_neg (by decide), if_neg h]
theorem quot_inf (g : Nat) (s t : Bool) (m : Nat) (i j : Int) (h : m ≠ 0) : Ieee.Datum.quotient g (.number s m i) (.number t 0 j) = some (.infinity (s ^^ t)) := by
  unfold Ieee.Datum.quotient; simp [h]
theorem quo_high (a : Int) (a0 : a ≠ 0) (a1 : -9000000000000000000 ≤ a) (a2 : a ≤ 9000000000000000000) :
    ∃ r, Ieee.double.div (toF a) (toF 0) = some r ∧ r < 18446744073709551616 ∧ clsV r = ratC a 0 := by
  obtain ⟨h1, h2, h3⟩ := toF_pos a a0 a1 a2
  refine ⟨Fl.wordOf (decide (a < 0)) 9218868437227405312, ?_, Fl.word_lt _ _ (by decide), ?_⟩
  · rw [toF_zero]
    unfold Ieee.Format.div
    rw [Fl.read_fin 0 (by decide), Fl.read_fin (toF a) h1, h3, show Fl.sgn 0 = false from by decide, show Fl.mm (Fl.rng 0) = 0 from by decide]
    generalize Fl.mm (Fl.rng (toF a)) = m at *
    rw [quot_inf _ _ _ _ _ _ h2, Bool.xor_false]
    show some (Ieee.double.word (decide (a < 0)) Ieee.double.infRung) = _
    refine congrArg some ?_
    unfold Ieee.Format.word Fl.wordOf
    rw [Fl.sw, Fl.ir]
  · rw [cls_word _ _ (by decide), if_neg (by decide), if_pos rfl]
    unfold ratC
    rw [if_pos rfl, if_neg a0]
    by_cases h : a < 0
    · rw [decide_eq_true h, if_pos rfl, if_pos h]
    · rw [decide_eq_false h, if_neg (by decide), if_neg h]
theorem quo_none : Ieee.double.div 0 0 = none := by decide +kernel
/-- 0 divided by 0: a NaN, whichever. -/
theorem run_nan (w : World) : ∃ n, n < 18446744073709551616 ∧ 9218868437227405312 < Fl.rng n ∧ (binOp .quo 23 (.float .f64 0) (.float .f64 0)).run Try.prog w = .ok (.float .f64 n) w.drew := by
  obtain ⟨t, ht⟩ : ∃ t, w.tape w.drawn (.nanBits .f64 0 0) = t := ⟨_, rfl⟩
  refine ⟨(Question.nanBits .f64 0 0).cut t, ?_, ?_, ?_⟩
  · show (t % 2) * 2 ^ 63 + 0x7ff0000000000000 + 1 + (t / 2) % (2 ^ 52 - 1) < _
    omega
  · show 9218868437227405312 < ((t % 2) * 2 ^ 63 + 0x7ff0000000000000 + 1 + (t / 2) % (2 ^ 52 - 1)) % 9223372036854775808
    generalize t / 2 = u
    have h : t % 2 = 0 ∨ t % 2 = 1 := by omega
    rcases h with h | h <;> rw [h] <;> omega
  · rw [← ht]
    have e : FloatKind.f64.format.div 0 0 = none := quo_none
    simp only [binOp, Op.floatArith, e]
    rfl
end Go.Proofs.Ytnlhgehibbgmoaa
