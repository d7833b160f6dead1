/- Plain facts on float64: a value rounded to its word; a quotient of two words. -/
import Derived.Test.YtnlhgehibbgmoaaFlP
namespace Go.Proofs.Ytnlhgehibbgmoaa.Fl
open Ieee

theorem cut_round (neg : Bool) (n d : Nat) (hd : d ≤ n.log2 + 2) :
    2 * (Toward.even.cut neg n d * 2 ^ d) ≤ 2 * n + 2 ^ d ∧ 2 * n ≤ 2 * (Toward.even.cut neg n d * 2 ^ d) + 2 ^ d ∧ n / 2 ^ d ≤ Toward.even.cut neg n d ∧ Toward.even.cut neg n d ≤ n / 2 ^ d + 1 := by
  have p : 0 < 2 ^ d := Nat.two_pow_pos d
  have e : 1 <<< min d (n.log2 + 2) = 2 ^ d := by rw [Nat.min_eq_left hd, Nat.shiftLeft_eq, Nat.one_mul]
  unfold Toward.cut
  simp only [e]
  have h1 := Nat.div_add_mod n (2 ^ d)
  have h2 := Nat.mod_lt n p
  rw [Nat.mul_comm] at h1
  generalize n / 2 ^ d = q at *
  generalize n % 2 ^ d = r at *
  cases hm : (decide (2 ^ d < 2 * r) || 2 ^ d == 2 * r && q % 2 == 1)
  · rw [Bool.or_eq_false_iff] at hm
    have h3 : ¬ 2 ^ d < 2 * r := of_decide_eq_false hm.1
    simp only [Bool.toNat_false, Nat.add_zero]
    generalize q * 2 ^ d = z at *
    refine ⟨by omega, by omega, by omega, by omega⟩
  · rw [Bool.or_eq_true, Bool.and_eq_true, beq_iff_eq] at hm
    have h3 : 2 ^ d ≤ 2 * r := by
      rcases hm with hm | hm
      · have := of_decide_eq_true hm; omega
      · omega
    simp only [Bool.toNat_true, Nat.add_mul, Nat.one_mul]
    generalize q * 2 ^ d = z at *
    refine ⟨by omega, by omega, by omega, by omega⟩

def wordOf (neg : Bool) (r : Nat) : Nat := if neg = true then 9223372036854775808 + r else r
theorem sgn_word (neg : Bool) (r : Nat) (h : r < 9223372036854775808) : sgn (wordOf neg r) = neg := by
  unfold wordOf sgn
  cases neg
  · rw [if_neg (by decide), Nat.div_eq_of_lt h]; rfl
  · rw [if_pos rfl, show (9223372036854775808 + r) / 9223372036854775808 = 1 by omega]; rfl
theorem rng_word (neg : Bool) (r : Nat) (h : r < 9223372036854775808) : rng (wordOf neg r) = r := by
  unfold wordOf rng
  cases neg
  · rw [if_neg (by decide), Nat.mod_eq_of_lt h]
  · rw [if_pos rfl]; omega
theorem word_lt (neg : Bool) (r : Nat) (h : r < 9223372036854775808) : wordOf neg r < 18446744073709551616 := by
  unfold wordOf; split <;> omega

/-- What is kept of a number whose first digit stands at place log2 - 52 and above. -/
structure Kept (m k : Nat) : Prop where
  low : 4503599627370496 ≤ k
  high : k ≤ 9007199254740992
  exact : m.log2 ≤ 52 → k = m * 2 ^ (52 - m.log2)
  above : 52 < m.log2 → 2 * (k * 2 ^ (m.log2 - 52)) ≤ 2 * m + 2 ^ (m.log2 - 52)
  below : 52 < m.log2 → 2 * m ≤ 2 * (k * 2 ^ (m.log2 - 52)) + 2 ^ (m.log2 - 52)

/-- A value that is neither too small nor too great is rounded. -/
theorem near_norm (neg : Bool) (m : Nat) (p : Int) (d : Nat) (hm : m ≠ 0) (hd : p + (m.log2 : Int) = (d : Int) - 1022) (hd2 : d ≤ 2044) :
    ∃ k, double.nearest neg m p = wordOf neg (d * 4503599627370496 + k) ∧ Kept m k := by
  have hl1 := Nat.log2_self_le hm
  have hl2 := @Nat.lt_log2_self m
  unfold Format.nearest
  rw [if_neg hm, lp, fb, bn]
  have e1 : max (p + (m.log2 : Int) - ((52 : Nat) : Int)) (-1074) = (d : Int) - 1074 := by omega
  have e4 : (((d : Int) - 1074) - (-1074)).toNat = d := by omega
  have e2 : (p - ((d : Int) - 1074)).toNat = 52 - m.log2 := by omega
  have e3 : (((d : Int) - 1074) - p).toNat = m.log2 - 52 := by omega
  simp only [e1, e2, e3, e4]
  obtain ⟨k, hk⟩ : ∃ k, Toward.even.cut neg (m <<< (52 - m.log2)) (m.log2 - 52) = k := ⟨_, rfl⟩
  rw [hk]
  have K : Kept m k := by
    rcases Nat.lt_or_ge 52 m.log2 with h | h
    · rw [show 52 - m.log2 = 0 by omega, Nat.shiftLeft_zero] at hk
      have hc := cut_round neg m (m.log2 - 52) (by omega)
      rw [hk] at hc
      have p0 : 0 < 2 ^ (m.log2 - 52) := Nat.two_pow_pos _
      have f1 : 4503599627370496 ≤ m / 2 ^ (m.log2 - 52) := by
        rw [Nat.le_div_iff_mul_le p0]
        have : 2 ^ m.log2 = 4503599627370496 * 2 ^ (m.log2 - 52) := by rw [show (4503599627370496 : Nat) = 2 ^ 52 from by decide, ← Nat.pow_add, show 52 + (m.log2 - 52) = m.log2 by omega]
        omega
      have f2 : m / 2 ^ (m.log2 - 52) < 9007199254740992 := by
        rw [Nat.div_lt_iff_lt_mul p0]
        have : 2 ^ (m.log2 + 1) = 9007199254740992 * 2 ^ (m.log2 - 52) := by rw [show (9007199254740992 : Nat) = 2 ^ 53 from by decide, ← Nat.pow_add, show 53 + (m.log2 - 52) = m.log2 + 1 by omega]
        omega
      exact ⟨by omega, by omega, fun hx => by omega, fun _ => hc.1, fun _ => hc.2.1⟩
    · rw [show m.log2 - 52 = 0 by omega, cut_zero, Nat.shiftLeft_eq] at hk
      have p0 : 0 < 2 ^ (52 - m.log2) := Nat.two_pow_pos _
      have f1 : 2 ^ m.log2 * 2 ^ (52 - m.log2) ≤ m * 2 ^ (52 - m.log2) := Nat.mul_le_mul_right _ hl1
      have f2 : m * 2 ^ (52 - m.log2) < 2 ^ (m.log2 + 1) * 2 ^ (52 - m.log2) := Nat.mul_lt_mul_of_pos_right hl2 p0
      rw [← Nat.pow_add, show m.log2 + (52 - m.log2) = 52 by omega] at f1
      rw [← Nat.pow_add, show m.log2 + 1 + (52 - m.log2) = 53 by omega] at f2
      rw [hk] at f1 f2
      refine ⟨?_, ?_, fun _ => hk.symm, fun hx => by omega, fun hx => by omega⟩
      · exact f1
      · exact Nat.le_of_lt f2
  refine ⟨k, ?_, K⟩
  have h1 := K.high
  rw [word_min neg _ (by omega)]
  rfl

/-- What a rung says that is made of a power and what is kept. -/
theorem mg_kept (d k : Nat) (h1 : 4503599627370496 ≤ k) (h2 : k ≤ 9007199254740992) : mg (d * 4503599627370496 + k) = k * 2 ^ d := by
  unfold mg
  rw [if_neg (by omega)]
  rcases Nat.lt_or_ge k 9007199254740992 with h | h
  · rw [show (d * 4503599627370496 + k) % 4503599627370496 = k - 4503599627370496 by omega, show (d * 4503599627370496 + k) / 4503599627370496 - 1 = d by omega, show 4503599627370496 + (k - 4503599627370496) = k by omega]
  · have hk : k = 9007199254740992 := by omega
    subst hk
    rw [show (d * 4503599627370496 + 9007199254740992) % 4503599627370496 = 0 by omega, show (d * 4503599627370496 + 9007199254740992) / 4503599627370496 - 1 = d + 1 by omega, Nat.add_zero, Nat.pow_succ]
    generalize 2 ^ d = z
    omega

/-- A quotient of two words that are neither too small nor too great. -/
theorem div_norm (x y : Nat) (hx1 : 4503599627370496 ≤ rng x) (hx2 : rng x < 9218868437227405312) (hy1 : 4503599627370496 ≤ rng y) (hy2 : rng y < 9218868437227405312)
    (hlo : mk (rng y) ≤ mk (rng x) + 1000) (hhi : mk (rng x) ≤ mk (rng y) + 1000) :
    ∃ d k c : Nat, double.div x y = some (wordOf (sgn x ^^ sgn y) (d * 4503599627370496 + k)) ∧ 4503599627370496 ≤ k ∧ k ≤ 9007199254740992 ∧ 2 ≤ c ∧ c ≤ 3 ∧ (d : Int) = (mk (rng x) : Int) - (mk (rng y) : Int) + 1019 + c ∧
      k * 2 ^ c * mm (rng y) ≤ mm (rng x) * 2 ^ 55 + 5 * mm (rng y) ∧ mm (rng x) * 2 ^ 55 ≤ k * 2 ^ c * mm (rng y) + 5 * mm (rng y) := by
  have hm1 := mm_lt (rng x)
  have hg1 := mm_ge (rng x) hx1
  have hm2 := mm_lt (rng y)
  have hg2 := mm_ge (rng y) hy1
  unfold Format.div
  rw [read_fin x hx2, read_fin y hy2]
  obtain ⟨m, hm⟩ : ∃ m, mm (rng x) = m := ⟨_, rfl⟩
  obtain ⟨n, hn⟩ : ∃ n, mm (rng y) = n := ⟨_, rfl⟩
  obtain ⟨i, hi⟩ : ∃ i, mk (rng x) = i := ⟨_, rfl⟩
  obtain ⟨j, hj⟩ : ∃ j, mk (rng y) = j := ⟨_, rfl⟩
  rw [hm] at hm1 hg1
  rw [hn] at hm2 hg2
  rw [hi, hj] at hlo hhi
  rw [hm, hn, hi, hj]
  clear hm hn hi hj hx1 hx2 hy1 hy2
  generalize sgn x = s
  generalize sgn y = t
  have l1 := log2_52 hg1 hm1
  have l2 := log2_52 hg2 hm2
  show ∃ d k c : Nat, ((if n = 0 then (if m = 0 then none else some (Datum.infinity (s ^^ t))) else some (Datum.number (s ^^ t) (2 * (m <<< (double.fractionBits + 2 + n.log2 - m.log2) / n) + (m <<< (double.fractionBits + 2 + n.log2 - m.log2) % n != 0).toNat) ((-1074 + (i : Int)) - (-1074 + (j : Int)) - ((double.fractionBits + 2 + n.log2 - m.log2 : Nat) : Int) - 1))).map double.write) = _ ∧ _
  rw [if_neg (by omega), l1, l2, fb, show (52 + 2 + 52 - 52 : Nat) = 54 from rfl, Nat.shiftLeft_eq]
  have hdm := Nat.div_add_mod (m * 2 ^ 54) n
  have hml := Nat.mod_lt (m * 2 ^ 54) (show 0 < n by omega)
  rw [show (2 : Nat) ^ 54 = 18014398509481984 from by decide] at *
  obtain ⟨q, hq⟩ : ∃ q, m * 18014398509481984 / n = q := ⟨_, rfl⟩
  obtain ⟨r, hr⟩ : ∃ r, m * 18014398509481984 % n = r := ⟨_, rfl⟩
  obtain ⟨z, hz⟩ : ∃ z, n * q = z := ⟨_, rfl⟩
  rw [hq, hr, hz] at hdm
  rw [hr] at hml
  rw [hq, hr]
  -- the whole part lies between
  have q1 : 9007199254740992 < q := by
    rcases Nat.lt_or_ge 9007199254740992 q with h | h
    · exact h
    · have h5 : n * q ≤ n * 9007199254740992 := Nat.mul_le_mul_left _ h
      omega
  have q2 : q < 36028797018963968 := by
    rcases Nat.lt_or_ge q 36028797018963968 with h | h
    · exact h
    · have h5 : n * 36028797018963968 ≤ n * q := Nat.mul_le_mul_left _ h
      omega
  obtain ⟨b, hb, hb1, hb2, hb3⟩ : ∃ b : Nat, (r != 0).toNat = b ∧ b ≤ 1 ∧ (2 * q + b) * n ≤ m * 36028797018963968 + n ∧ m * 36028797018963968 ≤ (2 * q + b) * n + n := by
    have e : 2 * q * n = 2 * z := by rw [← hz, Nat.mul_assoc, Nat.mul_comm q]
    by_cases h0 : r = 0
    · refine ⟨0, by rw [h0]; rfl, by omega, ?_, ?_⟩
      · rw [Nat.add_zero, e]; omega
      · rw [Nat.add_zero, e]; omega
    · have : (r != 0) = true := by rw [bne_iff_ne]; exact h0
      refine ⟨1, by rw [this]; rfl, by omega, ?_, ?_⟩
      · rw [Nat.add_mul, e]; omega
      · rw [Nat.add_mul, e]; omega
  rw [hb]
  obtain ⟨M, hM⟩ : ∃ M, 2 * q + b = M := ⟨_, rfl⟩
  rw [hM] at hb2 hb3 ⊢
  have hM1 : 18014398509481984 ≤ M := by omega
  have hM2 : M < 72057594037927936 := by omega
  have hML : M.log2 = 54 ∨ M.log2 = 55 := by
    rcases Nat.lt_or_ge M 36028797018963968 with h | h
    · exact Or.inl ((Nat.log2_eq_iff (by omega)).2 ⟨hM1, h⟩)
    · exact Or.inr ((Nat.log2_eq_iff (by omega)).2 ⟨h, hM2⟩)
  obtain ⟨c, hc, hc1, hc2⟩ : ∃ c, M.log2 = 52 + c ∧ 2 ≤ c ∧ c ≤ 3 := by
    rcases hML with h | h
    · exact ⟨2, h, by omega, by omega⟩
    · exact ⟨3, h, by omega, by omega⟩
  obtain ⟨d, hd⟩ : ∃ d : Nat, (d : Int) = (i : Int) - (j : Int) + 1019 + c := ⟨((i : Int) - (j : Int) + 1019 + c).toNat, by omega⟩
  obtain ⟨k, hk, K⟩ := near_norm (s ^^ t) M ((-1074 + (i : Int)) - (-1074 + (j : Int)) - ((54 : Nat) : Int) - 1) d (by omega) (by rw [hc]; omega) (by omega)
  refine ⟨d, k, c, congrArg some hk, K.low, K.high, hc1, hc2, hd, ?_, ?_⟩
  · have ka := K.above (by omega)
    rw [hc, show 52 + c - 52 = c by omega] at ka
    have c8 : 2 ^ c ≤ 8 := by
      have : 2 ^ c ≤ 2 ^ 3 := Nat.pow_le_pow_right (by omega) hc2
      exact this
    have k1 : k * 2 ^ c ≤ M + 4 := by generalize k * 2 ^ c = u at *; omega
    have k2 : k * 2 ^ c * n ≤ (M + 4) * n := Nat.mul_le_mul_right _ k1
    rw [Nat.add_mul] at k2
    rw [show (2 : Nat) ^ 55 = 36028797018963968 from by decide]
    omega
  · have ka := K.below (by omega)
    rw [hc, show 52 + c - 52 = c by omega] at ka
    have c8 : 2 ^ c ≤ 8 := by
      have : 2 ^ c ≤ 2 ^ 3 := Nat.pow_le_pow_right (by omega) hc2
      exact this
    have k1 : M ≤ k * 2 ^ c + 4 := by generalize k * 2 ^ c = u at *; omega
    have k2 : M * n ≤ (k * 2 ^ c + 4) * n := Nat.mul_le_mul_right _ k1
    rw [Nat.add_mul (k * 2 ^ c)] at k2
    rw [show (2 : Nat) ^ 55 = 36028797018963968 from by decide]
    omega
end Go.Proofs.Ytnlhgehibbgmoaa.Fl
