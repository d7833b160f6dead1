/- Plain arithmetic beneath math/bits.Div64: two digits by one, after Knuth. -/
import Derived.Lib.BitFns
import Derived.Lib.ItoaNum
namespace Go.Proofs.YtloamahbghjjgaaGreatDoor.Dv

theorem norm (hi lo y : Nat) (hhy : hi < y) (h1 : lo < 18446744073709551616) (hy : y < 18446744073709551616) :
    ∃ s Y H L u v : Nat, Lib.bitLen y + s = 64 ∧ s ≤ 63 ∧ y * 2 ^ s = Y ∧ 9223372036854775808 ≤ Y ∧ Y < 18446744073709551616 ∧
      hi * 2 ^ s = H ∧ H < 18446744073709551616 ∧ lo / 2 ^ (64 - s) = L ∧ L < 18446744073709551616 ∧ (H ||| L) = u ∧ u < Y ∧
      (lo * 2 ^ s) % 18446744073709551616 = v ∧ v < 18446744073709551616 ∧ (hi * 18446744073709551616 + lo) * 2 ^ s = u * 18446744073709551616 + v := by
  obtain ⟨b1, b2, b3⟩ := Lib.bitLenAux_bounds 64 y (by omega) (by omega)
  have bl : Lib.bitLen y ≤ 64 := Lib.bitLen_le y 64 (by omega) (by omega)
  have be : Lib.bitLenAux 64 y = Lib.bitLen y := rfl
  rw [be] at b1 b2 b3
  generalize Lib.bitLen y = n at *
  have e64 : (18446744073709551616 : Nat) = 2 ^ 64 := by decide
  have e63 : (9223372036854775808 : Nat) = 2 ^ 63 := by decide
  have pw : 2 ^ n * 2 ^ (64 - n) = 2 ^ 64 := by rw [← Nat.pow_add]; congr 1; omega
  have pw1 : 2 ^ (n - 1) * 2 ^ (64 - n) = 2 ^ 63 := by rw [← Nat.pow_add]; congr 1; omega
  have pp : 0 < 2 ^ (64 - n) := Nat.two_pow_pos _
  have hYl : 2 ^ 63 ≤ y * 2 ^ (64 - n) := by rw [← pw1]; exact Nat.mul_le_mul_right _ b2
  have hYu : y * 2 ^ (64 - n) < 2 ^ 64 := by rw [← pw]; exact (Nat.mul_lt_mul_right pp).2 b3
  have hH : hi * 2 ^ (64 - n) < 2 ^ 64 := Nat.lt_of_le_of_lt (Nat.mul_le_mul_right _ (Nat.le_of_lt hhy)) hYu
  have e6 : 64 - (64 - n) = n := by omega
  have hL : lo / 2 ^ n < 2 ^ (64 - n) := by
    rw [Nat.div_lt_iff_lt_mul (Nat.two_pow_pos _), Nat.mul_comm, pw, ← e64]; exact h1
  have hor : hi * 2 ^ (64 - n) ||| lo / 2 ^ n = hi * 2 ^ (64 - n) + lo / 2 ^ n := by
    have := Nat.two_pow_add_eq_or_of_lt hL hi
    rw [Nat.mul_comm hi]; exact this.symm
  have hdm : lo * 2 ^ (64 - n) = lo / 2 ^ n * 2 ^ 64 + (lo * 2 ^ (64 - n)) % 2 ^ 64 := by
    have h := Nat.div_add_mod (lo * 2 ^ (64 - n)) (2 ^ 64)
    have h2 : lo * 2 ^ (64 - n) / 2 ^ 64 = lo / 2 ^ n := by
      rw [← pw]; exact Nat.mul_div_mul_right _ _ pp
    rw [h2] at h
    omega
  have heq : (hi * 2 ^ 64 + lo) * 2 ^ (64 - n) = (hi * 2 ^ (64 - n) + lo / 2 ^ n) * 2 ^ 64 + (lo * 2 ^ (64 - n)) % 2 ^ 64 := by
    rw [Nat.add_mul, Nat.add_mul, Nat.mul_right_comm]
    omega
  have hlt : (hi * 2 ^ 64 + lo) * 2 ^ (64 - n) < y * 2 ^ (64 - n) * 2 ^ 64 := by
    have a : hi * 2 ^ 64 + lo < y * 2 ^ 64 := by omega
    rw [Nat.mul_right_comm]
    exact (Nat.mul_lt_mul_right pp).2 a
  have hu : hi * 2 ^ (64 - n) + lo / 2 ^ n < y * 2 ^ (64 - n) := by
    rw [heq] at hlt
    omega
  refine ⟨64 - n, _, _, _, _, _, by omega, by omega, rfl, by omega, by omega, rfl, by omega, rfl, ?_, rfl, ?_, rfl, Nat.mod_lt _ (by omega), ?_⟩
  · rw [e6]; exact Nat.lt_of_le_of_lt (Nat.div_le_self _ _) h1
  · rw [e6, hor]; exact hu
  · rw [e6, hor, e64]; exact heq

/-- One digit: what the quotient is, and how the guess stands to it. -/
def dig (Y u n : Nat) : Nat := (u * 4294967296 + n) / Y

theorem dig_lt (Y u n : Nat) (hu : u < Y) (hn : n < 4294967296) : dig Y u n < 4294967296 := by
  unfold dig
  rw [Nat.div_lt_iff_lt_mul (by omega)]
  have : u * 4294967296 + 4294967296 ≤ Y * 4294967296 := by omega
  omega

theorem mulY (q y1 y0 : Nat) : q * (y1 * 4294967296 + y0) = q * y1 * 4294967296 + q * y0 := by
  rw [Nat.mul_add, Nat.mul_assoc]

theorem too_big (y1 y0 u n q r : Nat) (hu : u < y1 * 4294967296 + y0) (hn : n < 4294967296) (h : q * y1 + r = u) (hc : 4294967296 ≤ q ∨ 4294967296 * r + n < q * y0) :
    dig (y1 * 4294967296 + y0) u n + 1 ≤ q := by
  rcases hc with hc | hc
  · have := dig_lt _ u n hu hn; omega
  · have : dig (y1 * 4294967296 + y0) u n < q := by
      unfold dig
      rw [Nat.div_lt_iff_lt_mul (by omega), mulY]
      omega
    omega

theorem small (y1 y0 u n q r : Nat) (hu : u < y1 * 4294967296 + y0) (h : q * y1 + r = u) (hq : dig (y1 * 4294967296 + y0) u n ≤ q) (hc : q * y0 ≤ 4294967296 * r + n) :
    q = dig (y1 * 4294967296 + y0) u n := by
  refine Nat.le_antisymm ?_ hq
  unfold dig
  rw [Nat.le_div_iff_mul_le (by omega), mulY]
  omega

theorem brk (y1 y0 u n q r : Nat) (hu : u < y1 * 4294967296 + y0) (hy0 : y0 < 4294967296) (h : q * y1 + r = u) (hq : dig (y1 * 4294967296 + y0) u n ≤ q) (hr : 4294967296 ≤ r) (hb : q ≤ 4294967296) :
    q = dig (y1 * 4294967296 + y0) u n := by
  refine small y1 y0 u n q r hu h hq ?_
  have : q * y0 ≤ 4294967296 * y0 := Nat.mul_le_mul_right _ hb
  omega

theorem first (y1 y0 u n : Nat) (hu : u < y1 * 4294967296 + y0) (hn : n < 4294967296) (hy0 : y0 < 4294967296) (hy1 : 2147483648 ≤ y1) :
    dig (y1 * 4294967296 + y0) u n ≤ u / y1 ∧ u / y1 ≤ 4294967297 ∧ u / y1 * y1 + u % y1 = u ∧ u % y1 < y1 := by
  have hp : 0 < y1 := by omega
  refine ⟨?_, ?_, ?_, Nat.mod_lt _ hp⟩
  · rw [Nat.le_div_iff_mul_le hp]
    have h := Nat.div_mul_le_self (u * 4294967296 + n) (y1 * 4294967296 + y0)
    have h' : dig (y1 * 4294967296 + y0) u n * (y1 * 4294967296 + y0) ≤ u * 4294967296 + n := h
    rw [mulY] at h'
    omega
  · have h := Nat.div_mul_le_self u y1
    generalize u / y1 = q at *
    by_cases hc : q ≤ 4294967297
    · exact hc
    · have : 4294967298 * y1 ≤ q * y1 := Nat.mul_le_mul_right _ (by omega)
      omega
  · have := Nat.div_add_mod u y1
    rw [Nat.mul_comm] at this
    exact this

theorem next {q y1 r u : Nat} (h : q * y1 + r = u) (hq : 1 ≤ q) : (q - 1) * y1 + (r + y1) = u := by
  obtain ⟨p, rfl⟩ : ∃ p, q = p + 1 := ⟨q - 1, by omega⟩
  rw [Nat.add_sub_cancel, ← h, Nat.add_mul]; omega

/-- What is left behind one digit. -/
theorem left (Y u n : Nat) (hY : 0 < Y) : dig Y u n * Y ≤ u * 4294967296 + n ∧ u * 4294967296 + n - dig Y u n * Y = (u * 4294967296 + n) % Y ∧ u * 4294967296 + n - dig Y u n * Y < Y := by
  unfold dig
  have h := Nat.div_add_mod (u * 4294967296 + n) Y
  have h2 := Nat.mod_lt (u * 4294967296 + n) hY
  rw [Nat.mul_comm] at h
  omega

theorem two_gen (Y A B v0 : Nat) (hY : 0 < Y) : (A * B + v0) / Y = A / Y * B + (A % Y * B + v0) / Y ∧ (A * B + v0) % Y = (A % Y * B + v0) % Y := by
  have h := Nat.div_add_mod A Y
  generalize A / Y = a at *
  generalize A % Y = b at *
  have e2 : A * B + v0 = (b * B + v0) + Y * (a * B) := by
    rw [← h, Nat.add_mul, Nat.mul_assoc]; omega
  rw [e2]
  refine ⟨?_, ?_⟩
  · rw [Nat.add_mul_div_left _ _ hY, Nat.add_comm]
  · rw [Nat.add_mul_mod_self_left]

/-- Two digits make the quotient. -/
theorem two (Y u v1 v0 : Nat) (hY : 0 < Y) :
    (u * 18446744073709551616 + (v1 * 4294967296 + v0)) / Y = dig Y u v1 * 4294967296 + dig Y ((u * 4294967296 + v1) % Y) v0 ∧
    (u * 18446744073709551616 + (v1 * 4294967296 + v0)) % Y = (((u * 4294967296 + v1) % Y) * 4294967296 + v0) % Y := by
  have e : u * 18446744073709551616 + (v1 * 4294967296 + v0) = (u * 4294967296 + v1) * 4294967296 + v0 := by omega
  rw [e]
  unfold dig
  exact two_gen Y (u * 4294967296 + v1) 4294967296 v0 hY

/-- And the shift is taken back. -/
theorem back (hi lo y s Y u v : Nat) (hY : y * 2 ^ s = Y) (h : (hi * 18446744073709551616 + lo) * 2 ^ s = u * 18446744073709551616 + v) :
    (u * 18446744073709551616 + v) / Y = (hi * 18446744073709551616 + lo) / y ∧ (u * 18446744073709551616 + v) % Y / 2 ^ s = (hi * 18446744073709551616 + lo) % y := by
  rw [← h, ← hY]
  refine ⟨Nat.mul_div_mul_right _ _ (Nat.two_pow_pos _), ?_⟩
  rw [Nat.mul_mod_mul_right, Nat.mul_div_cancel _ (Nat.two_pow_pos _)]

end Go.Proofs.YtloamahbghjjgaaGreatDoor.Dv
