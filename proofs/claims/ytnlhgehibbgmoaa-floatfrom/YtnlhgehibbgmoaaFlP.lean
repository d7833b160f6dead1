/- Plain facts on float64: halving, doubling, the whole part; what Parts' two loops come to. -/
import Derived.Test.YtnlhgehibbgmoaaFlN
import Derived.Laws.FloatArith
namespace Go.Proofs.Ytnlhgehibbgmoaa.Fl
open Ieee

/-- So many units of the least place, as a power of 2, are 1. -/
def kU : Nat := 1074
theorem kU_eq : kU = 1074 := rfl
theorem un_pos : 0 < 2 ^ kU := Nat.two_pow_pos _
theorem un_split (k : Nat) (h : k ≤ kU) : 2 ^ kU = 2 ^ (kU - k) * 2 ^ k := by rw [← Nat.pow_add, Nat.sub_add_cancel h]
theorem sgn_small {r : Nat} (h : r < 9223372036854775808) : sgn r = false := by unfold sgn; rw [Nat.div_eq_of_lt h]; rfl
theorem rng_small {r : Nat} (h : r < 9223372036854775808) : rng r = r := by unfold rng; exact Nat.mod_eq_of_lt h

theorem log2_52 {m : Nat} (h1 : 4503599627370496 ≤ m) (h2 : m < 9007199254740992) : m.log2 = 52 := by
  rw [Nat.log2_eq_iff (by omega)]; exact ⟨h1, h2⟩
theorem mm_sub {r p : Nat} (h : p * 4503599627370496 + 4503599627370496 ≤ r) : mm (r - p * 4503599627370496) = mm r ∧ mk (r - p * 4503599627370496) = mk r - p := by
  unfold mm mk
  rw [if_neg (by omega), if_neg (by omega)]
  omega
/-- Half of what a great word says. -/
theorem div_two (r : Nat) (h1 : 4845873199050653696 ≤ r) (h2 : r < 9218868437227405312) : double.div r 4611686018427387904 = some (r - 4503599627370496) := by
  unfold Format.div
  rw [read_fin r (by rw [rng_small (by omega)]; exact h2), sgn_small (by omega), rng_small (by omega)]
  have e2 : double.read 4611686018427387904 = .number false 4503599627370496 (-1074 + (1023 : Nat)) := by decide +kernel
  rw [e2]
  have hm := mm_lt r
  have hg := mm_ge r (by omega)
  have hk : 1075 ≤ mk r := by unfold mk; omega
  have hl : (mm r).log2 = 52 := by rw [Nat.log2_eq_iff (by omega)]; exact ⟨hg, hm⟩
  have hl2 : (4503599627370496 : Nat).log2 = 52 := by decide
  show ((if (4503599627370496 : Nat) = 0 then (if mm r = 0 then none else some (Datum.infinity (false ^^ false))) else some (Datum.number (false ^^ false) (2 * (mm r <<< (double.fractionBits + 2 + (4503599627370496 : Nat).log2 - (mm r).log2) / 4503599627370496) + (mm r <<< (double.fractionBits + 2 + (4503599627370496 : Nat).log2 - (mm r).log2) % 4503599627370496 != 0).toNat) ((-1074 + (mk r : Int)) - (-1074 + ((1023 : Nat) : Int)) - ((double.fractionBits + 2 + (4503599627370496 : Nat).log2 - (mm r).log2 : Nat) : Int) - 1))).map double.write) = _
  rw [if_neg (by decide), hl, hl2, fb, show (52 + 2 + 52 - 52 : Nat) = 54 from rfl, Nat.shiftLeft_eq]
  have d1 : mm r * 2 ^ 54 / 4503599627370496 = mm r * 4 := by
    rw [show (2 : Nat) ^ 54 = 4 * 4503599627370496 from by decide, ← Nat.mul_assoc, Nat.mul_div_cancel _ (by decide)]
  have d2 : mm r * 2 ^ 54 % 4503599627370496 = 0 := by
    rw [show (2 : Nat) ^ 54 = 4 * 4503599627370496 from by decide, ← Nat.mul_assoc, Nat.mul_mod_left]
  rw [d1, d2]
  show some (double.nearest (false ^^ false) (2 * (mm r * 4) + 0) _) = _
  rw [show (-1074 + (mk r : Int)) - (-1074 + ((1023 : Nat) : Int)) - ((54 : Nat) : Int) - 1 = -1074 + ((mk r - 4 : Nat) : Int) by omega, Nat.add_zero]
  obtain ⟨s1, s2⟩ := mm_sub (r := r) (p := 1) (by omega)
  rw [Nat.one_mul] at s1 s2
  have ev : 2 * (mm r * 4) * 2 ^ (mk r - 4) = mg (r - 4503599627370496) := by
    rw [mg_eq, s1, s2, show mk r - 1 = 3 + (mk r - 4) by omega, Nat.pow_add, ← Nat.mul_assoc (mm r), show 2 * (mm r * 4) = mm r * 2 ^ 3 by omega]
  have hh := near_up false (2 * (mm r * 4)) (mk r - 4) (by omega)
  rw [ev, rv_mg] at hh
  have h3 := hh (fits_mg _) (by omega)
  rw [if_neg (by decide)] at h3
  rw [← h3]; rfl

theorem mg_c52 : mg 4841369599423283200 = 4503599627370496 * 2 ^ kU := by
  unfold mg; rw [if_neg (by decide), show 4841369599423283200 % 4503599627370496 = 0 from by decide, show 4841369599423283200 / 4503599627370496 - 1 = kU from by decide, Nat.add_zero]
theorem mg_c53 : mg 4845873199050653696 = 9007199254740992 * 2 ^ kU := by
  unfold mg; rw [if_neg (by decide), show 4845873199050653696 % 4503599627370496 = 0 from by decide, show 4845873199050653696 / 4503599627370496 - 1 = kU + 1 from by decide, Nat.add_zero, Nat.pow_succ]; generalize 2 ^ kU = p; omega
/-- Twice what a word below 2^52 says. -/
theorem dbl (r : Nat) (h : r < 4841369599423283200) : ∃ r', double.mul r 4611686018427387904 = some r' ∧ mg r' = 2 * mg r ∧ r' < 4845873199050653696 := by
  rcases Nat.eq_zero_or_pos r with h0 | h0
  · subst h0; exact ⟨0, by decide +kernel, by decide, by decide⟩
  · have hlt := mg_lt h
    rw [mg_c52] at hlt
    have h53 : 2 * mg r < 9007199254740992 * 2 ^ kU := by
      generalize 2 ^ kU = p at *; omega
    have hbig : mg 4845873199050653696 < mg 9218868437227405312 := mg_lt (by decide)
    rw [mg_c53, mg_inf] at hbig
    obtain ⟨e1, e2, e3⟩ := mul_two r h0 (Nat.lt_trans h53 hbig)
    refine ⟨_, e1, e2, ?_⟩
    rw [← mg_lt_iff, e2, mg_c53]; exact h53

theorem cut_to_zero (neg : Bool) (n d : Nat) : Toward.zero.cut neg n d = n / 2 ^ d := by
  unfold Toward.cut
  show n / (1 <<< min d (n.log2 + 2)) + 0 = _
  rw [Nat.shiftLeft_eq, Nat.one_mul, Nat.add_zero]
  rcases Nat.le_total d (n.log2 + 2) with h | h
  · rw [Nat.min_eq_left h]
  · rw [Nat.min_eq_right h]
    have h1 := @Nat.lt_log2_self n
    have h2 : 2 ^ (n.log2 + 1) ≤ 2 ^ (n.log2 + 2) := Nat.pow_le_pow_right (by omega) (by omega)
    have h3 : 2 ^ (n.log2 + 2) ≤ 2 ^ d := Nat.pow_le_pow_right (by omega) h
    rw [Nat.div_eq_of_lt (by omega), Nat.div_eq_of_lt (by omega)]
/-- The whole part of what a word below 2^53 says. -/
theorem whole_part (r : Nat) (h : r < 4845873199050653696) : floatToIntVal .f64 r .u64 = some ((mg r / 2 ^ kU : Nat) : Int) := by
  have hk : mk r ≤ kU := by unfold mk kU; omega
  have hv : mg r / 2 ^ kU < 9007199254740992 := by
    rw [Nat.div_lt_iff_lt_mul un_pos, ← mg_c53]; exact mg_lt h
  have e : (FloatKind.f64.decode r).toInt .zero = some ((mg r / 2 ^ kU : Nat) : Int) := by
    show (double.read r).toInt .zero = _
    rw [read_fin r (by rw [rng_small (by omega)]; omega), sgn_small (by omega), rng_small (by omega)]
    show some (signed false (Toward.zero.cut false (mm r <<< (-1074 + (mk r : Int)).toNat) (-(-1074 + (mk r : Int))).toNat) 0) = _
    rw [show (-1074 + (mk r : Int)).toNat = 0 by have := kU_eq; omega, Nat.shiftLeft_zero, show (-(-1074 + (mk r : Int))).toNat = kU - mk r by have := kU_eq; omega, cut_to_zero]
    show some (((mm r / 2 ^ (kU - mk r)) <<< 0 : Nat) : Int) = _
    rw [Nat.shiftLeft_zero]
    refine congrArg (fun t : Nat => some (t : Int)) ?_
    rw [mg_eq, un_split (mk r) hk, Nat.mul_div_mul_right _ _ (Nat.two_pow_pos _)]
  unfold floatToIntVal
  rw [e]
  have hb : IntKind.u64.min ≤ ((mg r / 2 ^ kU : Nat) : Int) ∧ ((mg r / 2 ^ kU : Nat) : Int) ≤ IntKind.u64.max := by
    generalize mg r / 2 ^ kU = n at *
    have e1 : IntKind.u64.min = 0 := by decide
    have e2 : IntKind.u64.max = 18446744073709551615 := by decide
    rw [e1, e2]; omega
  show (if _ then _ else _) = _
  rw [if_pos hb]

/-- What the loop that halves comes to. -/
theorem end_one (r0 r p : Nat) (h : r + p * 4503599627370496 = r0) (hp : 0 < p) (h1 : 4841369599423283200 ≤ r) (h2 : r < 4845873199050653696) : mg r / 2 ^ kU = mm r0 ∧ (p : Int) = (mk r0 : Int) - 1074 := by
  have e : r = r0 - p * 4503599627370496 := by omega
  obtain ⟨s1, s2⟩ := mm_sub (r := r0) (p := p) (by omega)
  rw [← e] at s1 s2
  have hk : mk r = kU := by unfold mk kU; omega
  have hk0 : 1074 ≤ mk r0 := by unfold mk; omega
  rw [mg_eq, hk, Nat.mul_div_cancel _ un_pos, s1]
  have := kU_eq
  exact ⟨rfl, by omega⟩
/-- What the loop that doubles comes to. -/
theorem end_two (r0 r q : Nat) (h : mg r = mg r0 * 2 ^ q) (hq : q ≤ kU) (h2 : r < 4845873199050653696) (hx : 4841369599423283200 ≤ r ∨ q = kU) : mg r / 2 ^ kU = mm r0 ∧ -(q : Int) = (mk r0 : Int) - 1074 := by
  by_cases hr : 4841369599423283200 ≤ r
  · have hk : mk r = kU := by unfold mk kU; omega
    have hg := mm_ge r (by omega)
    have hl := mm_lt r
    have e := h
    rw [mg_eq r, hk] at e
    rw [mg_eq r, hk, Nat.mul_div_cancel _ un_pos]
    rw [mg_eq r0, Nat.mul_assoc, ← Nat.pow_add] at e
    have hl0 := mm_lt r0
    by_cases hn : r0 < 4503599627370496
    · exfalso
      have hmm : mm r0 = r0 := by unfold mm; rw [if_pos hn]
      have hmk : mk r0 = 0 := by unfold mk; omega
      rw [hmm, hmk, Nat.zero_add] at e
      have p1 : 2 ^ q ≤ 2 ^ kU := Nat.pow_le_pow_right (by omega) hq
      have p2 : r0 * 2 ^ q ≤ r0 * 2 ^ kU := Nat.mul_le_mul_left _ p1
      have p3 : r0 * 2 ^ kU < mm r * 2 ^ kU := Nat.mul_lt_mul_of_pos_right (by omega) un_pos
      omega
    · have hg0 := mm_ge r0 (by omega)
      have a1 : (mm r0 * 2 ^ (mk r0 + q)).log2 = 52 + (mk r0 + q) := by
        rw [log2_mul_pow _ _ (by omega), log2_52 hg0 hl0]
      have a2 : (mm r * 2 ^ kU).log2 = 52 + kU := by
        rw [log2_mul_pow _ _ (by omega), log2_52 hg hl]
      rw [← e, a2] at a1
      have a3 : mk r0 + q = kU := by omega
      rw [a3] at e
      have := kU_eq
      exact ⟨Nat.eq_of_mul_eq_mul_right un_pos e, by omega⟩
  · have hq' : q = kU := by omega
    subst hq'
    have hlt := mg_lt (show r < 4841369599423283200 by omega)
    rw [mg_c52, h] at hlt
    have hs : mg r0 < 4503599627370496 := Nat.lt_of_mul_lt_mul_right hlt
    have hr0 : r0 < 4503599627370496 := by
      rcases Nat.lt_or_ge r0 4503599627370496 with hc | hc
      · exact hc
      · have := mg_le hc
        rw [show mg 4503599627370496 = 4503599627370496 from by decide] at this
        omega
    rw [h, Nat.mul_div_cancel _ un_pos]
    unfold mg mm mk
    rw [if_pos hr0, if_pos hr0]
    have := kU_eq
    exact ⟨rfl, by omega⟩
end Go.Proofs.Ytnlhgehibbgmoaa.Fl
