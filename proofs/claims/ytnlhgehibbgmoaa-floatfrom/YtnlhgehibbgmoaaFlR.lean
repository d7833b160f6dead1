/- The contracts of To and Ratio. -/
import Derived.Test.YtnlhgehibbgmoaaFlQ
import Derived.Test.YtnlhgehibbgmoaaFlG
namespace Go.Proofs.Ytnlhgehibbgmoaa
open Go.RowKit

/-- The word of a whole number, and of so many parts. -/
def toI (a : Int) : Nat := Ieee.double.nearest (decide (a < 0)) a.natAbs 0
def toF (a : Int) : Nat := (Ieee.double.div (toI a) 4666723172467343360).getD 0
theorem ofInt_eq (a : Int) : floatOfInt .f64 a = toI a := rfl

theorem toI_norm (a : Int) (h0 : a ≠ 0) (h1 : -9000000000000000000 ≤ a) (h2 : a ≤ 9000000000000000000) :
    ∃ k, toI a = Fl.wordOf (decide (a < 0)) ((a.natAbs.log2 + 1022) * 4503599627370496 + k) ∧ Fl.Kept a.natAbs k ∧ a.natAbs.log2 ≤ 62 := by
  have hl : a.natAbs.log2 < 63 := Fl.log2_lt_of (by
    have : (2 : Nat) ^ 63 = 9223372036854775808 := by decide
    omega) (by omega)
  obtain ⟨k, e, K⟩ := Fl.near_norm (decide (a < 0)) a.natAbs 0 (a.natAbs.log2 + 1022) (by omega) (by omega) (by omega)
  exact ⟨k, e, K, by omega⟩

theorem toF_norm (a : Int) (h0 : a ≠ 0) (h1 : -9000000000000000000 ≤ a) (h2 : a ≤ 9000000000000000000) :
    ∃ d k : Nat, Ieee.double.div (toI a) 4666723172467343360 = some (toF a) ∧ toF a = Fl.wordOf (decide (a < 0)) (d * 4503599627370496 + k) ∧ 4503599627370496 ≤ k ∧ k ≤ 9007199254740992 ∧ 1000 ≤ d ∧ d ≤ 1090 := by
  obtain ⟨k0, e0, K0, hl⟩ := toI_norm a h0 h1 h2
  obtain ⟨l, hll⟩ : ∃ l, a.natAbs.log2 = l := ⟨_, rfl⟩
  rw [hll] at e0 hl
  have kl := K0.low
  have kh := K0.high
  have hs : Fl.sgn (toI a) = decide (a < 0) := by rw [e0]; exact Fl.sgn_word _ _ (by omega)
  have hr : Fl.rng (toI a) = (l + 1022) * 4503599627370496 + k0 := by rw [e0]; exact Fl.rng_word _ _ (by omega)
  have hk : 1022 + l ≤ Fl.mk (Fl.rng (toI a)) ∧ Fl.mk (Fl.rng (toI a)) ≤ 1023 + l := by rw [hr]; unfold Fl.mk; omega
  have y1 : Fl.rng 4666723172467343360 = 4666723172467343360 := by decide
  have y2 : Fl.mk 4666723172467343360 = 1035 := by decide
  have y3 : Fl.sgn 4666723172467343360 = false := by decide
  obtain ⟨d, k, c, f1, f2, f3, f4, f5, f6, _, _⟩ := Fl.div_norm (toI a) 4666723172467343360 (by rw [hr]; omega) (by rw [hr]; omega) (by rw [y1]; decide) (by rw [y1]; decide) (by rw [y1, y2]; omega) (by rw [y1, y2]; omega)
  rw [hs, y3, Bool.xor_false] at f1
  rw [y1, y2] at f6
  refine ⟨d, k, ?_, ?_, f2, f3, by omega, by omega⟩
  · unfold toF; rw [f1]; rfl
  · unfold toF; rw [f1]; rfl
theorem toF_zero : toF 0 = 0 := by decide +kernel
theorem toF_some (a : Int) (h1 : -9000000000000000000 ≤ a) (h2 : a ≤ 9000000000000000000) : Ieee.double.div (toI a) 4666723172467343360 = some (toF a) := by
  by_cases h0 : a = 0
  · subst h0; decide +kernel
  · obtain ⟨_, _, e, _⟩ := toF_norm a h0 h1 h2; exact e

/-- The number that To reads. -/
def goodN (a : Int) : Int := if goodB a = true then a else 0
theorem goodN_le (a : Int) : -9000000000000000000 ≤ goodN a ∧ goodN a ≤ 9000000000000000000 := by
  unfold goodN
  by_cases h : goodB a = true
  · rw [if_pos h]; exact (goodB_iff a).1 h
  · rw [if_neg h]; omega
def toV (a : Int) : Nat := toF (goodN a)

theorem und33 : (Try.prog.underlying 33).isSome = true := by rw [Try.underlying33]; rfl
set_option maxHeartbeats 400000 in
theorem to_any (a : Int) (w : World) :
    Calls Try.prog 23 #[.int .i64 a] w fun e w' => e = .returned (.float .f64 (toV a)) ∧ Below w.heap.size w w' := by
  obtain ⟨g, hg⟩ : ∃ g, goodN a = g := ⟨_, rfl⟩
  have hb := goodN_le a
  rw [hg] at hb
  have HR : Hid (∀ w, Calls Try.prog 24 #[.int .i64 a] w fun e w' => ∃ q, e = .returned (.tuple #[.int .i64 g, .int .i64 q]) ∧ Below w.heap.size w w') := hide (fun w => (raw_any a w).mono (by
    rintro e w' ⟨rfl, hb⟩
    exact ⟨_, by rw [← hg]; rfl, hb⟩))
  have ht : toV a = toF g := by unfold toV; rw [hg]
  rw [ht]
  have HS := hide (toF_some g hb.1 hb.2)
  clear hg ht hb
  go_enter Try.func23, Try.ntmps23
  go_wp2_with fail
  refine (unhide HR _).mono ?_
  rintro e w1 ⟨q, rfl, b1⟩
  have e1 := run_convert_int_float (P := Try.prog) w1 33 23 .i64 .f64 g und33 Try.underlying23
  rw [ofInt_eq] at e1
  have e2 := run_float_arith (P := Try.prog) w1 .quo 23 .f64 (toI g) 4666723172467343360 (toF g) (unhide HS)
  go_wp2
  go_ret
  exact ⟨rfl, b1⟩
end Go.Proofs.Ytnlhgehibbgmoaa
