/- The contract of order, of two words. -/
import Derived.Test.YtnlhgehibbgmoaaFlE
namespace Go.Proofs.Ytnlhgehibbgmoaa
open Go.RowKit

set_option maxHeartbeats 1000000 in
theorem order_same (h l : Int) (w : World) :
    Calls Try.prog 31 #[.agg #[.int .u64 h, .int .u64 l], .agg #[.int .u64 h, .int .u64 l]] w fun e w' => e = .returned (.int .i64 0) ∧ Below w.heap.size w w' := by
  go_enter Try.func31, Try.ntmps31
  go_wp2
  go_ret
  exact ⟨rfl, below_two _ _ _⟩
set_option maxHeartbeats 1000000 in
theorem order_h (h l h' l' : Int) (w : World) (hne : (h == h') = false) :
    Calls Try.prog 31 #[.agg #[.int .u64 h, .int .u64 l], .agg #[.int .u64 h', .int .u64 l']] w fun e w' => e = .returned (.int .i64 (if h < h' then -1 else 1)) ∧ Below w.heap.size w w' := by
  by_cases hc : h < h'
  · rw [if_pos hc]
    go_enter Try.func31, Try.ntmps31
    go_wp2
    go_ret
    exact ⟨rfl, below_two _ _ _⟩
  · rw [if_neg hc]
    have hd : decide (h < h') = false := decide_eq_false hc
    go_enter Try.func31, Try.ntmps31
    go_wp2
    go_ret
    exact ⟨rfl, below_two _ _ _⟩
set_option maxHeartbeats 1000000 in
theorem order_l (h l l' : Int) (w : World) (hne : (l == l') = false) :
    Calls Try.prog 31 #[.agg #[.int .u64 h, .int .u64 l], .agg #[.int .u64 h, .int .u64 l']] w fun e w' => e = .returned (.int .i64 (if l < l' then -1 else 1)) ∧ Below w.heap.size w w' := by
  by_cases hc : l < l'
  · rw [if_pos hc]
    go_enter Try.func31, Try.ntmps31
    go_wp2
    go_ret
    exact ⟨rfl, below_two _ _ _⟩
  · rw [if_neg hc]
    have hd : decide (l < l') = false := decide_eq_false hc
    go_enter Try.func31, Try.ntmps31
    go_wp2
    go_ret
    exact ⟨rfl, below_two _ _ _⟩

/-- How two numbers stand. -/
def ordV (n m : Nat) : Int := if n = m then 0 else if n < m then -1 else 1
theorem order_two (n m : Nat) (h l h' l' : Int) (w : World) (t : Two n h l) (t' : Two m h' l') :
    Calls Try.prog 31 #[.agg #[.int .u64 h, .int .u64 l], .agg #[.int .u64 h', .int .u64 l']] w fun e w' => e = .returned (.int .i64 (ordV n m)) ∧ Below w.heap.size w w' := by
  obtain ⟨rfl, rfl⟩ := t
  obtain ⟨rfl, rfl⟩ := t'
  unfold ordV
  by_cases e1 : n / 18446744073709551616 = m / 18446744073709551616
  · rw [e1]
    by_cases e2 : n % 18446744073709551616 = m % 18446744073709551616
    · rw [e2, if_pos (by omega)]
      exact order_same _ _ w
    · refine (order_l _ _ _ w (by rw [beq_eq_false_iff_ne]; omega)).mono ?_
      rintro e w' ⟨rfl, hb⟩
      refine ⟨ret_int ?_, hb⟩
      rw [if_neg (by omega : ¬ n = m)]
      by_cases h : n < m
      · rw [if_pos h, if_pos (by omega)]
      · rw [if_neg h, if_neg (by omega)]
  · refine (order_h _ _ _ _ w (by rw [beq_eq_false_iff_ne]; omega)).mono ?_
    rintro e w' ⟨rfl, hb⟩
    refine ⟨ret_int ?_, hb⟩
    rw [if_neg (by omega : ¬ n = m)]
    by_cases h : n < m
    · rw [if_pos h, if_pos (by omega)]
    · rw [if_neg h, if_neg (by omega)]
theorem product_two (x y : Nat) (a b : Int) (w : World) (ha : a = (x : Int)) (hb : b = (y : Int)) (hx : x < 18446744073709551616) (hy : y < 18446744073709551616) :
    Calls Try.prog 30 #[.int .u64 a, .int .u64 b] w fun e w' => (∃ h l, e = .returned (.agg #[.int .u64 h, .int .u64 l]) ∧ Hid (Two (x * y) h l)) ∧ Below w.heap.size w w' := by
  rw [ha, hb]
  refine (product_any x y w hx hy).mono ?_
  rintro e w' ⟨rfl, hb⟩
  obtain ⟨h, l, t⟩ := two_ex (x * y)
  exact ⟨⟨h, l, by rw [wide_two t], hide t⟩, hb⟩
theorem rounded_two (n k : Nat) (h l kk : Int) (w : World) (t : Two n h l) (hkk : kk = (k : Int)) (hk1 : 1 ≤ k) (hk : k ≤ 2000) (hn : n < 170141183460469231731687303715884105728) :
    Calls Try.prog 29 #[.agg #[.int .u64 h, .int .u64 l], .int .i64 kk] w fun e w' => (∃ h' l', e = .returned (.agg #[.int .u64 h', .int .u64 l']) ∧ Hid (Two ((n / 2 ^ (k - 1) + 1) / 2) h' l')) ∧ Below w.heap.size w w' := by
  rw [← wide_two t, hkk]
  refine (rounded_any n k w hk1 hk hn).mono ?_
  rintro e w' ⟨rfl, hb⟩
  obtain ⟨h', l', t⟩ := two_ex ((n / 2 ^ (k - 1) + 1) / 2)
  exact ⟨⟨h', l', by rw [wide_two t], hide t⟩, hb⟩
end Go.Proofs.Ytnlhgehibbgmoaa
