/- The contracts of Of and rank, and what the library tells of a float64's bits. -/
import Derived.Test.YtnlhgehibbgmoaaFxA
import Derived.Test.YtnlhgehibbgmoaaFlM
namespace Go.Proofs.Ytnlhgehibbgmoaa
open Go.RowKit

/-- The class of a word. -/
def clsV (b : Nat) : Int :=
  if 9218868437227405312 < Fl.rng b then 0 else if Fl.rng b = 9218868437227405312 then (if Fl.sgn b = true then 1 else 6)
    else if Fl.rng b = 0 then (if Fl.sgn b = true then 3 else 4) else if Fl.sgn b = true then 2 else 5

theorem f64_format : FloatKind.f64.format = Ieee.double := rfl
theorem word_eq (b : Nat) (h : b < 18446744073709551616) : b = (if Fl.sgn b = true then 9223372036854775808 + Fl.rng b else Fl.rng b) := by
  unfold Fl.sgn Fl.rng
  by_cases h1 : b < 9223372036854775808
  · rw [Nat.div_eq_of_lt h1, Nat.mod_eq_of_lt h1]; rfl
  · have e : b / 9223372036854775808 = 1 := by omega
    rw [e]; simp; omega
theorem nan_ne (b : Nat) (h : 9218868437227405312 < Fl.rng b) (c : Nat) (o : Ordering) : (FloatKind.f64.format.order b c == some o) = false := by
  rw [f64_format, Fl.order_nan_l b c h]; rfl
theorem kv_max : Fl.kv 9218868437227405311 = 9218868437227405311 := by decide
theorem kv_min : Fl.kv 18442240474082181119 = -9218868437227405311 := by decide
theorem kv_zero : Fl.kv 0 = 0 := by decide
theorem kv_pos {b : Nat} (h : Fl.sgn b = false) : Fl.kv b = (Fl.rng b : Int) := by unfold Fl.kv Fl.sg; rw [h]; rfl
theorem kv_neg {b : Nat} (h : Fl.sgn b = true) : Fl.kv b = -(Fl.rng b : Int) := by unfold Fl.kv Fl.sg; rw [h]; rfl
theorem self_eq (b : Nat) (h : Fl.rng b ≤ 9218868437227405312) : (FloatKind.f64.format.order b b != some .eq) = false := by
  unfold bne; rw [f64_format, Fl.key_eq b b h h]; simp
theorem self_ne (b : Nat) (h : 9218868437227405312 < Fl.rng b) : (FloatKind.f64.format.order b b != some .eq) = true := by
  unfold bne; rw [nan_ne b h]; rfl
theorem below_min (b : Nat) (h : Fl.rng b ≤ 9218868437227405312) : (FloatKind.f64.format.order b 18442240474082181119 == some .lt) = decide (Fl.kv b < -9218868437227405311) := by
  rw [f64_format, Fl.key_lt b _ h (by decide), kv_min]
theorem above_max (b : Nat) (h : Fl.rng b ≤ 9218868437227405312) : (FloatKind.f64.format.order b 9218868437227405311 == some .gt) = decide (9218868437227405311 < Fl.kv b) := by
  rw [f64_format, Fl.key_gt b _ h (by decide), kv_max]
theorem below_zero (b : Nat) (h : Fl.rng b ≤ 9218868437227405312) : (FloatKind.f64.format.order b 0 == some .lt) = decide (Fl.kv b < 0) := by
  rw [f64_format, Fl.key_lt b _ h (by decide), kv_zero]
theorem above_zero (b : Nat) (h : Fl.rng b ≤ 9218868437227405312) : (FloatKind.f64.format.order b 0 == some .gt) = decide (0 < Fl.kv b) := by
  rw [f64_format, Fl.key_gt b _ h (by decide), kv_zero]

set_option maxHeartbeats 400000 in
theorem of_any (b : Nat) (w : World) (hb : b < 18446744073709551616) :
    Calls Try.prog 13 #[.float .f64 b] w fun e w' => e = .returned (.int .i64 (clsV b)) ∧ w' = w := by
  unfold clsV
  by_cases h1 : 9218868437227405312 < Fl.rng b
  · rw [if_pos h1]
    have e1 := self_ne b h1
    clear h1 hb
    go_enter Try.func13, Try.ntmps13
    go_wp2
    go_ret
    exact ⟨rfl, rfl⟩
  · rw [if_neg h1]
    have h2 : Fl.rng b ≤ 9218868437227405312 := by omega
    have e1 := self_eq b h2
    have e2 := below_min b h2
    have e3 := above_max b h2
    have e4 := below_zero b h2
    have e5 := above_zero b h2
    have hw := word_eq b hb
    cases hs : Fl.sgn b
    · rw [kv_pos hs] at e2 e3 e4 e5
      rw [hs] at hw
      by_cases h3 : Fl.rng b = 9218868437227405312
      · rw [h3] at e2 e3 e4 e5
        rw [if_pos h3]
        clear h1 h2 hw hs h3 hb
        go_enter Try.func13, Try.ntmps13
        go_wp2
        go_ret
        exact ⟨rfl, rfl⟩
      · rw [if_neg h3]
        by_cases h4 : Fl.rng b = 0
        · rw [if_pos h4]
          have hb0 : b = 0 := by rw [h4] at hw; exact hw
          subst hb0
          have e6 := run_float_arith (P := Try.prog) w .quo 23 .f64 4607182418800017408 0 9218868437227405312 (by decide +kernel)
          have e7 : (FloatKind.f64.format.order 9218868437227405312 0 == some .lt) = false := by decide +kernel
          rw [h4] at e2 e3 e4 e5
          clear h1 h2 hw hs h3 hb h4
          go_enter Try.func13, Try.ntmps13
          go_wp2
          go_ret
          exact ⟨rfl, rfl⟩
        · rw [if_neg h4]
          have d2 : decide ((Fl.rng b : Int) < -9218868437227405311) = false := by rw [decide_eq_false_iff_not]; omega
          have d3 : decide (9218868437227405311 < (Fl.rng b : Int)) = false := by rw [decide_eq_false_iff_not]; omega
          have d4 : decide ((Fl.rng b : Int) < 0) = false := by rw [decide_eq_false_iff_not]; omega
          have d5 : decide (0 < (Fl.rng b : Int)) = true := by rw [decide_eq_true_iff]; omega
          rw [d2] at e2
          rw [d3] at e3
          rw [d4] at e4
          rw [d5] at e5
          clear d2 d3 d4 d5 h1 h2 hw hs h3 hb h4
          go_enter Try.func13, Try.ntmps13
          go_wp2
          go_ret
          exact ⟨rfl, rfl⟩
    · rw [kv_neg hs] at e2 e3 e4 e5
      rw [hs] at hw
      by_cases h3 : Fl.rng b = 9218868437227405312
      · rw [h3] at e2 e3 e4 e5
        rw [if_pos h3]
        clear h1 h2 hw hs h3 hb
        go_enter Try.func13, Try.ntmps13
        go_wp2
        go_ret
        exact ⟨rfl, rfl⟩
      · rw [if_neg h3]
        by_cases h4 : Fl.rng b = 0
        · rw [if_pos h4]
          have hb0 : b = 9223372036854775808 := by rw [h4] at hw; exact hw
          subst hb0
          have e6 := run_float_arith (P := Try.prog) w .quo 23 .f64 4607182418800017408 9223372036854775808 18442240474082181120 (by decide +kernel)
          have e7 : (FloatKind.f64.format.order 18442240474082181120 0 == some .lt) = true := by decide +kernel
          rw [h4] at e2 e3 e4 e5
          clear h1 h2 hw hs h3 hb h4
          go_enter Try.func13, Try.ntmps13
          go_wp2
          go_ret
          exact ⟨rfl, rfl⟩
        · rw [if_neg h4]
          have d2 : decide (-(Fl.rng b : Int) < -9218868437227405311) = false := by rw [decide_eq_false_iff_not]; omega
          have d3 : decide (9218868437227405311 < -(Fl.rng b : Int)) = false := by rw [decide_eq_false_iff_not]; omega
          have d4 : decide (-(Fl.rng b : Int) < 0) = true := by rw [decide_eq_true_iff]; omega
          rw [d2] at e2
          rw [d3] at e3
          rw [d4] at e4
          clear d2 d3 d4 e5 h1 h2 hw hs h3 hb h4
          go_enter Try.func13, Try.ntmps13
          go_wp2
          go_ret
          exact ⟨rfl, rfl⟩
end Go.Proofs.Ytnlhgehibbgmoaa
