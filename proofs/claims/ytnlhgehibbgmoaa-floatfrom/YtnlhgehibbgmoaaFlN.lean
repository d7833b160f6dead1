/- Plain facts on float64: the rung of an exact value; doubling and halving. -/
import Derived.Test.YtnlhgehibbgmoaaFlM
namespace Go.Proofs.Ytnlhgehibbgmoaa.Fl
open Ieee

/-- The rung of a value in units of the least place, cut off below. -/
def rv (v : Nat) : Nat := (v.log2 - 52) * 4503599627370496 + v / 2 ^ (v.log2 - 52)
/-- No digit is lost. -/
def Fits (v : Nat) : Prop := v % 2 ^ (v.log2 - 52) = 0

theorem log2_mul_pow (m k : Nat) (h : m ≠ 0) : (m * 2 ^ k).log2 = m.log2 + k := by
  have hm : m * 2 ^ k ≠ 0 := Nat.mul_ne_zero h (Nat.pos_iff_ne_zero.1 (Nat.two_pow_pos k))
  rw [Nat.log2_eq_iff hm, Nat.pow_add, show m.log2 + k + 1 = (m.log2 + 1) + k by omega, Nat.pow_add]
  exact ⟨Nat.mul_le_mul_right _ (Nat.log2_self_le h), Nat.mul_lt_mul_of_pos_right Nat.lt_log2_self (Nat.two_pow_pos k)⟩

theorem cut_zero (neg : Bool) (n : Nat) : Toward.even.cut neg n 0 = n := by
  unfold Toward.cut
  simp [Nat.mod_one]
theorem cut_exact (neg : Bool) (n d : Nat) (hd : d ≤ n.log2 + 2) (h : n % 2 ^ d = 0) : Toward.even.cut neg n d = n / 2 ^ d := by
  unfold Toward.cut
  have p : 0 < 2 ^ d := Nat.two_pow_pos d
  have e : 1 <<< min d (n.log2 + 2) = 2 ^ d := by rw [Nat.min_eq_left hd, Nat.shiftLeft_eq, Nat.one_mul]
  simp only [e, h]
  have h1 : decide (2 ^ d < 2 * 0) = false := by rw [decide_eq_false_iff_not]; omega
  have h2 : (2 ^ d == 2 * 0) = false := by rw [beq_eq_false_iff_ne]; omega
  rw [h1, h2]; rfl

theorem word_min (neg : Bool) (r : Nat) (h : r ≤ 9218868437227405312) : double.word neg (min r double.infRung) = (if neg = true then 9223372036854775808 + r else r) := by
  unfold Format.word
  rw [ir, sw, Nat.min_eq_left h]

/-- The word of an exact value. -/
theorem near_up (neg : Bool) (m k : Nat) (hm : m ≠ 0) (hf : Fits (m * 2 ^ k)) (hr : rv (m * 2 ^ k) ≤ 9218868437227405312) :
    double.nearest neg m (-1074 + (k : Int)) = (if neg = true then 9223372036854775808 + rv (m * 2 ^ k) else rv (m * 2 ^ k)) := by
  rw [← word_min neg _ hr]
  unfold Format.nearest
  rw [if_neg hm, lp, fb, bn]
  have hl := log2_mul_pow m k hm
  obtain ⟨d, hd⟩ : ∃ d, (m * 2 ^ k).log2 - 52 = d := ⟨_, rfl⟩
  have e1 : max (-1074 + (k : Int) + (m.log2 : Int) - ((52 : Nat) : Int)) (-1074) = -1074 + (d : Int) := by omega
  have e2 : ((-1074 + (k : Int)) - (-1074 + (d : Int))).toNat = k - d := by omega
  have e3 : ((-1074 + (d : Int)) - (-1074 + (k : Int))).toNat = d - k := by omega
  have e4 : ((-1074 + (d : Int)) - (-1074)).toNat = d := by omega
  simp only [e1, e2, e3, e4]
  refine congrArg (fun t => double.word neg (min t double.infRung)) ?_
  unfold rv
  rw [hd]
  refine congrArg (fun t => d * 4503599627370496 + t) ?_
  unfold Fits at hf
  rw [hd] at hf
  rcases Nat.le_total d k with h | h
  · rw [show d - k = 0 by omega, cut_zero, Nat.shiftLeft_eq]
    have : m * 2 ^ k = m * 2 ^ (k - d) * 2 ^ d := by rw [Nat.mul_assoc, ← Nat.pow_add, Nat.sub_add_cancel h]
    rw [this, Nat.mul_div_cancel _ (Nat.two_pow_pos d)]
  · have ed : 2 ^ d = 2 ^ (d - k) * 2 ^ k := by rw [← Nat.pow_add, Nat.sub_add_cancel h]
    rw [ed, Nat.mul_mod_mul_right] at hf
    have hz : m % 2 ^ (d - k) = 0 := by
      rcases Nat.mul_eq_zero.1 hf with h | h
      · exact h
      · have := Nat.two_pow_pos k; omega
    rw [show k - d = 0 by omega, Nat.shiftLeft_zero, cut_exact _ _ _ (by omega) hz, ed, Nat.mul_div_mul_right _ _ (Nat.two_pow_pos k)]

theorem near_down (neg : Bool) (v k : Nat) (hv : v ≠ 0) (hf : Fits v) (hr : rv v ≤ 9218868437227405312) :
    double.nearest neg (v * 2 ^ k) (-1074 - (k : Int)) = (if neg = true then 9223372036854775808 + rv v else rv v) := by
  rw [← word_min neg _ hr]
  have hm : v * 2 ^ k ≠ 0 := Nat.mul_ne_zero hv (Nat.pos_iff_ne_zero.1 (Nat.two_pow_pos k))
  unfold Format.nearest
  rw [if_neg hm, lp, fb, bn]
  have hl := log2_mul_pow v k hv
  obtain ⟨d, hd⟩ : ∃ d, v.log2 - 52 = d := ⟨_, rfl⟩
  rw [hl]
  have e1 : max (-1074 - (k : Int) + ((v.log2 + k : Nat) : Int) - ((52 : Nat) : Int)) (-1074) = -1074 + (d : Int) := by omega
  have e2 : ((-1074 - (k : Int)) - (-1074 + (d : Int))).toNat = 0 := by omega
  have e3 : ((-1074 + (d : Int)) - (-1074 - (k : Int))).toNat = d + k := by omega
  have e4 : ((-1074 + (d : Int)) - (-1074)).toNat = d := by omega
  simp only [e1, e2, e3, e4]
  refine congrArg (fun t => double.word neg (min t double.infRung)) ?_
  unfold rv
  rw [hd]
  refine congrArg (fun t => d * 4503599627370496 + t) ?_
  unfold Fits at hf
  rw [hd] at hf
  rw [Nat.shiftLeft_zero, cut_exact _ _ _ (by omega) (by rw [Nat.pow_add, Nat.mul_mod_mul_right, hf, Nat.zero_mul]), Nat.pow_add, Nat.mul_div_mul_right _ _ (Nat.two_pow_pos k)]

theorem log2_lt_of {n k : Nat} (h : n < 2 ^ k) (hk : 0 < k) : n.log2 < k := by
  rcases Nat.eq_zero_or_pos n with h0 | h0
  · subst h0; simpa using hk
  · exact (Nat.log2_lt (by omega)).2 h
theorem fits_mul (m k : Nat) (hm : m < 9007199254740992) : Fits (m * 2 ^ k) := by
  unfold Fits
  rcases Nat.eq_zero_or_pos m with h0 | h0
  · subst h0; simp
  · rw [log2_mul_pow m k (by omega)]
    have hl : m.log2 < 53 := log2_lt_of (by simpa using hm) (by omega)
    have : m * 2 ^ k = m * 2 ^ (k - (m.log2 + k - 52)) * 2 ^ (m.log2 + k - 52) := by rw [Nat.mul_assoc, ← Nat.pow_add, Nat.sub_add_cancel (by omega)]
    rw [this, Nat.mul_mod_left]
/-- The rung of a rung's value. -/
theorem rv_mg (r : Nat) : rv (mg r) = r := by
  by_cases h : r < 4503599627370496
  · have e : mg r = r := by unfold mg; rw [if_pos h]
    rw [e]
    unfold rv
    have hl : r.log2 < 52 := log2_lt_of (by simpa using h) (by omega)
    rw [show r.log2 - 52 = 0 by omega]; simp
  · rw [mg_eq]
    have h1 := mm_lt r
    have h2 := mm_ge r (by omega)
    have hl : (mm r).log2 = 52 := by
      rw [Nat.log2_eq_iff (by omega)]
      exact ⟨h2, h1⟩
    unfold rv
    rw [log2_mul_pow _ _ (by omega), hl, show 52 + mk r - 52 = mk r by omega, Nat.mul_div_cancel _ (Nat.two_pow_pos _)]
    unfold mm mk
    rw [if_neg h]
    omega
theorem fits_mg (r : Nat) : Fits (mg r) := by rw [mg_eq]; exact fits_mul _ _ (mm_lt r)
/-- A value of 53 digits is a rung's. -/
theorem mg_rv (m k : Nat) (hm : m < 9007199254740992) : mg (rv (m * 2 ^ k)) = m * 2 ^ k := by
  have hf := fits_mul m k hm
  obtain ⟨v, hv⟩ : ∃ v, m * 2 ^ k = v := ⟨_, rfl⟩
  rw [hv] at hf ⊢
  clear hm hv m k
  unfold rv Fits at *
  by_cases h : v.log2 < 52
  · rw [show v.log2 - 52 = 0 by omega]
    have hv : v < 4503599627370496 := by
      have h1 := @Nat.lt_log2_self v
      have h2 : 2 ^ (v.log2 + 1) ≤ 2 ^ 52 := Nat.pow_le_pow_right (by omega) (by omega)
      have : v < 2 ^ 52 := Nat.lt_of_lt_of_le h1 h2
      simpa using this
    simp only [Nat.pow_zero, Nat.div_one, Nat.zero_mul, Nat.zero_add]
    unfold mg; rw [if_pos hv]
  · obtain ⟨d, hd⟩ : ∃ d, v.log2 - 52 = d := ⟨_, rfl⟩
    rw [hd] at hf ⊢
    have hv0 : v ≠ 0 := by intro h0; subst h0; simp at h
    obtain ⟨q, hq⟩ : ∃ q, v / 2 ^ d = q := ⟨_, rfl⟩
    have hvq : v = q * 2 ^ d := by
      have := Nat.div_add_mod v (2 ^ d)
      rw [hf, hq, Nat.add_zero, Nat.mul_comm] at this; exact this.symm
    have h1 := Nat.log2_self_le hv0
    have h2 := @Nat.lt_log2_self v
    rw [show v.log2 = 52 + d by omega, Nat.pow_add] at h1
    rw [show v.log2 + 1 = 53 + d by omega, Nat.pow_add] at h2
    have p : 0 < 2 ^ d := Nat.two_pow_pos d
    have q1 : 4503599627370496 ≤ q := by
      rw [hvq] at h1
      exact Nat.le_of_mul_le_mul_right h1 p
    have q2 : q < 9007199254740992 := by
      rw [hvq] at h2
      exact Nat.lt_of_mul_lt_mul_right h2
    rw [hq]
    unfold mg
    rw [if_neg (by omega)]
    have e1 : (d * 4503599627370496 + q) % 4503599627370496 = q - 4503599627370496 := by omega
    have e2 : (d * 4503599627370496 + q) / 4503599627370496 - 1 = d := by omega
    rw [e1, e2, hvq, show 4503599627370496 + (q - 4503599627370496) = q by omega]
theorem mg_inf : mg 9218868437227405312 = 4503599627370496 * 2 ^ 2046 := by
  unfold mg; rw [if_neg (by decide), show 9218868437227405312 % 4503599627370496 = 0 from by decide, show 9218868437227405312 / 4503599627370496 - 1 = 2046 from by decide, Nat.add_zero]
/-- A value below the first that is too great has a rung below infinity's. -/
theorem rv_lt (m k : Nat) (hm : m < 9007199254740992) (h : m * 2 ^ k < 4503599627370496 * 2 ^ 2046) : rv (m * 2 ^ k) < 9218868437227405312 := by
  rw [← mg_lt_iff, mg_rv m k hm, mg_inf]; exact h

/-- Twice what a word says. -/
theorem mul_two (r : Nat) (h0 : 0 < r) (h : 2 * mg r < 4503599627370496 * 2 ^ 2046) : double.mul r 4611686018427387904 = some (rv (2 * mg r)) ∧ mg (rv (2 * mg r)) = 2 * mg r ∧ rv (2 * mg r) < 9218868437227405312 := by
  have e : 2 * mg r = mm r * 2 ^ (mk r + 1) := by rw [mg_eq, Nat.pow_succ]; generalize 2 ^ mk r = p; rw [Nat.mul_comm p 2, ← Nat.mul_assoc, ← Nat.mul_assoc, Nat.mul_comm 2]
  have hr : r < 9218868437227405312 := by
    rw [← mg_lt_iff, mg_inf]; omega
  have hlt := h
  rw [e] at hlt
  have h3 := rv_lt _ _ (mm_lt r) hlt
  rw [e]
  refine ⟨?_, mg_rv _ _ (mm_lt r), h3⟩
  have hs : sgn r = false := by unfold sgn; rw [Nat.div_eq_of_lt (by omega)]; rfl
  have hrn : rng r = r := by unfold rng; exact Nat.mod_eq_of_lt (by omega)
  unfold Format.mul
  rw [read_fin r (by rw [hrn]; exact hr), hs, hrn]
  have h2 : double.read 4611686018427387904 = .number false 4503599627370496 (-1074 + (1023 : Nat)) := by decide +kernel
  rw [h2]
  show some (double.nearest (false ^^ false) (mm r * 4503599627370496) ((-1074 + (mk r : Int)) + (-1074 + ((1023 : Nat) : Int)))) = _
  have hp : mg r ≠ 0 := by have := mg_pos h0; omega
  have hm0 : mm r ≠ 0 := by intro hc; rw [mg_eq, hc] at hp; simp at hp
  have hv0 : mm r * 2 ^ (mk r + 1) ≠ 0 := Nat.mul_ne_zero hm0 (Nat.pos_iff_ne_zero.1 (Nat.two_pow_pos _))
  by_cases hk : mk r + 1 ≤ 52
  · have hh := near_down false (mm r * 2 ^ (mk r + 1)) (51 - mk r) hv0 (fits_mul _ _ (mm_lt r)) (Nat.le_of_lt h3)
    rw [Nat.mul_assoc, ← Nat.pow_add, show mk r + 1 + (51 - mk r) = 52 by omega] at hh
    rw [show (-1074 + (mk r : Int)) + (-1074 + ((1023 : Nat) : Int)) = -1074 - ((51 - mk r : Nat) : Int) by omega]
    exact congrArg some hh
  · have hh := near_up false (mm r * 4503599627370496) (mk r - 51) (Nat.mul_ne_zero hm0 (by omega))
    rw [show mm r * 4503599627370496 * 2 ^ (mk r - 51) = mm r * 2 ^ (mk r + 1) from by
      rw [show (4503599627370496 : Nat) = 2 ^ 52 from by decide, Nat.mul_assoc, ← Nat.pow_add, show 52 + (mk r - 51) = mk r + 1 by omega]] at hh
    rw [show (-1074 + (mk r : Int)) + (-1074 + ((1023 : Nat) : Int)) = -1074 + ((mk r - 51 : Nat) : Int) by omega]
    exact congrArg some (hh (fits_mul _ _ (mm_lt r)) (Nat.le_of_lt h3))
end Go.Proofs.Ytnlhgehibbgmoaa.Fl
