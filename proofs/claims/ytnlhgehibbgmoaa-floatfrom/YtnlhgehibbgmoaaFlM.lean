/- Plain facts on the words of float64: how they are ordered, and which word an exact value has. -/
import Ieee.Arith
namespace Go.Proofs.Ytnlhgehibbgmoaa.Fl
open Ieee

theorem sw : double.signWeight = 9223372036854775808 := by decide
theorem bn : double.binade = 4503599627370496 := by decide
theorem ir : double.infRung = 9218868437227405312 := by decide
theorem lp : double.leastPlace = -1074 := by decide
theorem fb : double.fractionBits = 52 := rfl

def sgn (b : Nat) : Bool := b / 9223372036854775808 % 2 == 1
def rng (b : Nat) : Nat := b % 9223372036854775808
def mg (r : Nat) : Nat := if r < 4503599627370496 then r else (4503599627370496 + r % 4503599627370496) * 2 ^ (r / 4503599627370496 - 1)
def sg (s : Bool) (x : Nat) : Int := if s then -(x : Int) else x
def kv (b : Nat) : Int := sg (sgn b) (rng b)

/-- The whole number and the power above the least place of a rung. -/
def mm (r : Nat) : Nat := if r < 4503599627370496 then r else 4503599627370496 + r % 4503599627370496
def mk (r : Nat) : Nat := r / 4503599627370496 - 1
theorem mg_eq (r : Nat) : mg r = mm r * 2 ^ mk r := by
  unfold mg mm mk
  split
  · rename_i h
    rw [Nat.div_eq_of_lt h]; simp
  · rfl

theorem read_fin (b : Nat) (h : rng b < 9218868437227405312) : double.read b = .number (sgn b) (mm (rng b)) (-1074 + (mk (rng b) : Int)) := by
  unfold Format.read
  rw [sw, bn, ir, lp]
  show (if rng b < 4503599627370496 then Datum.number (sgn b) (rng b) (-1074) else _) = _
  unfold mm mk
  split
  · rename_i h1
    rw [Nat.div_eq_of_lt h1]; rfl
  · rename_i h1
    rw [if_pos (by exact h)]; rfl
theorem read_inf (b : Nat) (h : rng b = 9218868437227405312) : double.read b = .infinity (sgn b) := by
  unfold Format.read
  rw [sw, bn, ir, lp]
  show (if rng b < 4503599627370496 then _ else if rng b < 9218868437227405312 then _ else if rng b = 9218868437227405312 then Datum.infinity (sgn b) else _) = _
  rw [if_neg (by omega), if_neg (by omega), if_pos h]
theorem read_nan (b : Nat) (h : 9218868437227405312 < rng b) : ∃ s t, double.read b = .nan s t := by
  unfold Format.read
  rw [sw, bn, ir, lp]
  refine ⟨sgn b, rng b - 9218868437227405312, ?_⟩
  show (if rng b < 4503599627370496 then _ else if rng b < 9218868437227405312 then _ else if rng b = 9218868437227405312 then _ else Datum.nan (sgn b) (rng b - 9218868437227405312)) = _
  rw [if_neg (by omega), if_neg (by omega), if_neg (by omega)]

theorem cmp_lt (a b : Int) : (compare a b = .lt) ↔ a < b := by
  show compareOfLessAndEq a b = .lt ↔ _
  unfold compareOfLessAndEq
  split
  · simp [*]
  · split <;> simp [*]
theorem cmp_eq (a b : Int) : (compare a b = .eq) ↔ a = b := by
  show compareOfLessAndEq a b = .eq ↔ _
  unfold compareOfLessAndEq
  split
  · simp; omega
  · split <;> simp [*]
theorem cmp_gt (a b : Int) : (compare a b = .gt) ↔ b < a := by
  show compareOfLessAndEq a b = .gt ↔ _
  unfold compareOfLessAndEq
  split
  · simp; omega
  · split
    · simp [*]
    · simp; omega
theorem cmp_same {a b c d : Int} (h1 : a < b ↔ c < d) (h2 : a = b ↔ c = d) : compare a b = compare c d := by
  show compareOfLessAndEq a b = compareOfLessAndEq c d
  unfold compareOfLessAndEq
  simp only [h1, h2]

theorem mm_lt (r : Nat) : mm r < 9007199254740992 := by
  unfold mm; split
  · omega
  · have := Nat.mod_lt r (show 0 < 4503599627370496 by omega); omega
theorem mm_ge (r : Nat) (h : 4503599627370496 ≤ r) : 4503599627370496 ≤ mm r := by
  unfold mm; rw [if_neg (by omega)]; omega
theorem mg_lt {r s : Nat} (h : r < s) : mg r < mg s := by
  rw [mg_eq, mg_eq]
  by_cases h1 : s < 4503599627370496
  · have e1 : mk r = 0 := by unfold mk; rw [Nat.div_eq_of_lt (by omega)]
    have e2 : mk s = 0 := by unfold mk; rw [Nat.div_eq_of_lt (by omega)]
    rw [e1, e2]; unfold mm; rw [if_pos (by omega), if_pos h1]; omega
  · have hs := mm_ge s (by omega)
    have ps : 0 < 2 ^ mk s := Nat.two_pow_pos _
    by_cases h2 : r < 4503599627370496
    · have e1 : mk r = 0 := by unfold mk; rw [Nat.div_eq_of_lt (by omega)]
      rw [e1, Nat.pow_zero, Nat.mul_one]
      have : mm r = r := by unfold mm; rw [if_pos h2]
      rw [this]
      have : mm s * 1 ≤ mm s * 2 ^ mk s := Nat.mul_le_mul_left _ ps
      omega
    · have hr : mm r < 9007199254740992 := mm_lt r
      rcases Nat.lt_or_ge (mk r) (mk s) with h3 | h3
      · obtain ⟨c, hc⟩ := Nat.exists_eq_add_of_lt h3
        rw [hc, show mk r + c + 1 = 1 + c + mk r by omega, Nat.pow_add, ← Nat.mul_assoc]
        refine Nat.mul_lt_mul_of_pos_right ?_ (Nat.two_pow_pos _)
        rw [Nat.pow_add, Nat.pow_one]
        have : mm s * 2 * 1 ≤ mm s * 2 * 2 ^ c := Nat.mul_le_mul_left _ (Nat.two_pow_pos _)
        rw [← Nat.mul_assoc]; omega
      · have e : mk r = mk s := by
          have : r / 4503599627370496 ≤ s / 4503599627370496 := Nat.div_le_div_right (by omega)
          unfold mk at h3 ⊢; omega
        rw [e]
        refine Nat.mul_lt_mul_of_pos_right ?_ ps
        have e1 : r / 4503599627370496 = s / 4503599627370496 := by
          unfold mk at e; omega
        unfold mm; rw [if_neg h2, if_neg h1]
        omega
theorem mg_le {r s : Nat} (h : r ≤ s) : mg r ≤ mg s := by
  rcases Nat.lt_or_ge r s with h1 | h1
  · exact Nat.le_of_lt (mg_lt h1)
  · have : r = s := by omega
    rw [this]; exact Nat.le_refl _
theorem mg_lt_iff (r s : Nat) : mg r < mg s ↔ r < s := by
  refine ⟨fun h => ?_, mg_lt⟩
  rcases Nat.lt_or_ge r s with h1 | h1
  · exact h1
  · have := mg_le h1; omega
theorem mg_inj {r s : Nat} (h : mg r = mg s) : r = s := by
  rcases Nat.lt_trichotomy r s with h1 | h1 | h1
  · have := mg_lt h1; omega
  · exact h1
  · have := mg_lt h1; omega
theorem mg_zero : mg 0 = 0 := by decide
theorem mg_pos {r : Nat} (h : 0 < r) : 0 < mg r := by have := mg_lt h; rw [mg_zero] at this; exact this

theorem sg_cmp (s t : Bool) (a b c d : Nat) (h2 : a = b ↔ c = d) (h3 : b < a ↔ d < c) (h4 : a = 0 ↔ c = 0) (h5 : b = 0 ↔ d = 0) : compare (sg s a) (sg t b) = compare (sg s c) (sg t d) := by
  cases s <;> cases t <;> refine cmp_same ?_ ?_ <;> simp only [sg] <;> simp only [Bool.false_eq_true, if_false, if_true] <;> omega

theorem order_num (s t : Bool) (m n k l : Nat) : Datum.order (.number s m (-1074 + (k : Int))) (.number t n (-1074 + (l : Int))) = some (compare (sg s (m * 2 ^ k)) (sg t (n * 2 ^ l))) := by
  show some (compare (signed s m ((-1074 + (k : Int)) - min (-1074 + (k : Int)) (-1074 + (l : Int))).toNat) (signed t n ((-1074 + (l : Int)) - min (-1074 + (k : Int)) (-1074 + (l : Int))).toNat)) = _
  have hs : ∀ (s : Bool) (m a : Nat), signed s m a = sg s (m * 2 ^ a) := by
    intro s m a; unfold signed sg; rw [Nat.shiftLeft_eq]
  have e1 : ((-1074 + (k : Int)) - min (-1074 + (k : Int)) (-1074 + (l : Int))).toNat = k - min k l := by omega
  have e2 : ((-1074 + (l : Int)) - min (-1074 + (k : Int)) (-1074 + (l : Int))).toNat = l - min k l := by omega
  rw [e1, e2, hs, hs]
  have p : 0 < 2 ^ min k l := Nat.two_pow_pos _
  have f1 : m * 2 ^ k = m * 2 ^ (k - min k l) * 2 ^ min k l := by rw [Nat.mul_assoc, ← Nat.pow_add, Nat.sub_add_cancel (Nat.min_le_left _ _)]
  have f2 : n * 2 ^ l = n * 2 ^ (l - min k l) * 2 ^ min k l := by rw [Nat.mul_assoc, ← Nat.pow_add, Nat.sub_add_cancel (Nat.min_le_right _ _)]
  rw [f1, f2]
  generalize m * 2 ^ (k - min k l) = x
  generalize n * 2 ^ (l - min k l) = y
  generalize 2 ^ min k l = q at *
  refine congrArg some (sg_cmp s t _ _ _ _ ?_ ?_ ?_ ?_)
  · exact ⟨fun h => by rw [h], fun h => Nat.eq_of_mul_eq_mul_right p h⟩
  · exact (Nat.mul_lt_mul_right p).symm
  · constructor
    · intro h; rw [h, Nat.zero_mul]
    · intro h; rcases Nat.mul_eq_zero.1 h with h | h <;> omega
  · constructor
    · intro h; rw [h, Nat.zero_mul]
    · intro h; rcases Nat.mul_eq_zero.1 h with h | h <;> omega

/-- How two words stand that are no NaN: by their rungs. -/
theorem order_key (x y : Nat) (hx : rng x ≤ 9218868437227405312) (hy : rng y ≤ 9218868437227405312) : double.order x y = some (compare (kv x) (kv y)) := by
  unfold Format.order kv
  rcases Nat.lt_or_eq_of_le hx with h1 | h1 <;> rcases Nat.lt_or_eq_of_le hy with h2 | h2
  · rw [read_fin x h1, read_fin y h2, order_num, ← mg_eq, ← mg_eq]
    refine congrArg some (sg_cmp _ _ _ _ _ _ ⟨mg_inj, fun h => by rw [h]⟩ (mg_lt_iff _ _) ?_ ?_)
    · exact ⟨fun h => mg_inj (by rw [h, mg_zero]), fun h => by rw [h, mg_zero]⟩
    · exact ⟨fun h => mg_inj (by rw [h, mg_zero]), fun h => by rw [h, mg_zero]⟩
  · rw [read_fin x h1, read_inf y h2, h2]
    show some (if sgn y then Ordering.gt else .lt) = _
    refine congrArg some ?_
    cases hs : sgn y
    · refine ((cmp_lt _ _).2 ?_).symm
      cases hx' : sgn x <;> cases hy' : sgn y <;> simp_all [sg] <;> omega
    · refine ((cmp_gt _ _).2 ?_).symm
      cases hx' : sgn x <;> cases hy' : sgn y <;> simp_all [sg] <;> omega
  · rw [read_inf x h1, read_fin y h2, h1]
    show some (if sgn x then Ordering.lt else .gt) = _
    refine congrArg some ?_
    cases hs : sgn x
    · refine ((cmp_gt _ _).2 ?_).symm
      cases hx' : sgn x <;> cases hy' : sgn y <;> simp_all [sg] <;> omega
    · refine ((cmp_lt _ _).2 ?_).symm
      cases hx' : sgn x <;> cases hy' : sgn y <;> simp_all [sg] <;> omega
  · rw [read_inf x h1, read_inf y h2, h1, h2]
    show some (compare (sgn y).toNat (sgn x).toNat) = _
    cases sgn x <;> cases sgn y <;> decide
theorem order_nan_l (x y : Nat) (hx : 9218868437227405312 < rng x) : double.order x y = none := by
  unfold Format.order
  obtain ⟨s, t, e⟩ := read_nan x hx
  rw [e]; rfl
theorem order_nan_r (x y : Nat) (hy : 9218868437227405312 < rng y) : double.order x y = none := by
  unfold Format.order
  obtain ⟨s, t, e⟩ := read_nan y hy
  rw [e]; cases double.read x <;> rfl
theorem some_beq (a b : Ordering) : (some a == some b) = decide (a = b) := by cases a <;> cases b <;> rfl
theorem key_lt (x y : Nat) (hx : rng x ≤ 9218868437227405312) (hy : rng y ≤ 9218868437227405312) : (double.order x y == some .lt) = decide (kv x < kv y) := by
  rw [order_key x y hx hy, some_beq]; exact decide_eq_decide.2 (cmp_lt _ _)
theorem key_gt (x y : Nat) (hx : rng x ≤ 9218868437227405312) (hy : rng y ≤ 9218868437227405312) : (double.order x y == some .gt) = decide (kv y < kv x) := by
  rw [order_key x y hx hy, some_beq]; exact decide_eq_decide.2 (cmp_gt _ _)
theorem key_eq (x y : Nat) (hx : rng x ≤ 9218868437227405312) (hy : rng y ≤ 9218868437227405312) : (double.order x y == some .eq) = decide (kv x = kv y) := by
  rw [order_key x y hx hy, some_beq]; exact decide_eq_decide.2 (cmp_eq _ _)
end Go.Proofs.Ytnlhgehibbgmoaa.Fl
