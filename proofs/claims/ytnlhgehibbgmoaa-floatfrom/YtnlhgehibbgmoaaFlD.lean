/- The contracts of product, order, shifted, rounded. -/
import Derived.Test.YtnlhgehibbgmoaaFlC
import Derived.Test.YtnlhgehibbgmoaaFxB
import Derived.Test.YtnlhgehibbgmoaaShelf
import Derived.Laws.Rows
namespace Go.Proofs.Ytnlhgehibbgmoaa
open Go.RowKit

/-- A number of two words, as a value. -/
def wideV (n : Nat) : Value := .agg #[.int .u64 ((n / 18446744073709551616 : Nat) : Int), .int .u64 ((n % 18446744073709551616 : Nat) : Int)]
theorem info55 : (Try.prog.info? 55).map (·.size) = some 2 := by kernel_rfl
theorem below_two (w : World) (o p : Obj) : Below w.heap.size w ((w.alloc o).alloc p) := (below_alloc w o).alloc (by simp) _

set_option maxHeartbeats 400000 in
theorem product_any (x y : Nat) (w : World) (hx : x < 18446744073709551616) (hy : y < 18446744073709551616) :
    Calls Try.prog 30 #[.int .u64 (x : Int), .int .u64 (y : Int)] w fun e w' => e = .returned (wideV (x * y)) ∧ Below w.heap.size w w' := by
  unfold wideV
  go_enter Try.func30, Try.ntmps30
  go_wp2_with fail
  refine (Try.bits_Mul64 x y hx hy _).mono ?_
  rintro e w' ⟨rfl, rfl⟩
  generalize hhi : ((x * y / 18446744073709551616 : Nat) : Int) = hi at *
  generalize hlo : ((x * y % 18446744073709551616 : Nat) : Int) = lo at *
  have H := hide (And.intro hhi hlo)
  clear hhi hlo
  go_wp2
  refine bodyPost_ret (results_cell_row rfl _ _ _ _ _ _ _ rfl (heap_alloc_new _ _) Try.underlying55 rfl info55) rfl ?_
  exact ⟨by rw [(unhide H).1, (unhide H).2], below_alloc _ _⟩

theorem agg_eq {a b c d : Int} (h : a = b) (h' : c = d) : Ending.returned (.agg #[.int .u64 a, .int .u64 c]) = .returned (.agg #[.int .u64 b, .int .u64 d]) := by rw [h, h']

set_option maxHeartbeats 1000000 in
theorem shifted_far (h l n : Int) (w : World) (hn : 64 ≤ n) (hn2 : n ≤ 2000) :
    Calls Try.prog 45 #[.agg #[.int .u64 h, .int .u64 l], .int .i64 n] w fun e w' => e = .returned (.agg #[.int .u64 0, .int .u64 (h / 2 ^ min (n - 64).toNat 64)]) ∧ Below w.heap.size w w' := by
  go_enter Try.func45, Try.ntmps45
  go_wp2
  refine bodyPost_ret (results_cell_row rfl _ _ _ _ _ _ _ rfl (heap_alloc2_new _ _ _) Try.underlying55 rfl info55) rfl ?_
  exact ⟨rfl, below_two _ _ _⟩

theorem heap_drew2 (w : World) (A B : Obj) : ((w.alloc A).alloc B).drew.heap[w.heap.size + 1]? = some B := heap_alloc2_new w A B

set_option maxHeartbeats 1000000 in
theorem shifted_near (h l n : Int) (w : World) (hn : 0 ≤ n) (hn2 : n < 64) :
    Calls Try.prog 45 #[.agg #[.int .u64 h, .int .u64 l], .int .i64 n] w fun e w' => e = .returned (.agg #[.int .u64 (h / 2 ^ n.toNat), .int .u64 (bits .or .u64 (IntKind.u64.wrap (h * 2 ^ (64 - n).toNat)) (l / 2 ^ n.toNat))]) ∧ Below w.heap.size w w' := by
  go_enter Try.func45, Try.ntmps45
  go_wp2
  go_region
  go_wp2
  refine bodyPost_ret (results_cell_row rfl _ _ _ _ _ _ _ rfl (heap_drew2 _ _ _) Try.underlying55 rfl info55) rfl ?_
  exact ⟨rfl, (below_two _ _ _).drew⟩

theorem shift_parts (n k : Nat) (hk : k < 64) : n / 2 ^ k / 18446744073709551616 = n / 18446744073709551616 / 2 ^ k ∧
    n / 2 ^ k % 18446744073709551616 = (n / 18446744073709551616 % 2 ^ k) * 2 ^ (64 - k) + n % 18446744073709551616 / 2 ^ k ∧ n % 18446744073709551616 / 2 ^ k < 2 ^ (64 - k) ∧
    n / 18446744073709551616 * 2 ^ (64 - k) % 18446744073709551616 = (n / 18446744073709551616 % 2 ^ k) * 2 ^ (64 - k) ∧ (n / 18446744073709551616 % 2 ^ k) * 2 ^ (64 - k) < 18446744073709551616 := by
  have p : 0 < 2 ^ k := Nat.two_pow_pos k
  have q : 0 < 2 ^ (64 - k) := Nat.two_pow_pos _
  have e : 2 ^ k * 2 ^ (64 - k) = 18446744073709551616 := by rw [← Nat.pow_add, show k + (64 - k) = 64 by omega]
  obtain ⟨h, hh⟩ : ∃ h, n / 18446744073709551616 = h := ⟨_, rfl⟩
  obtain ⟨l, hl⟩ : ∃ l, n % 18446744073709551616 = l := ⟨_, rfl⟩
  have hn : n = h * 18446744073709551616 + l := by omega
  have hl2 : l < 18446744073709551616 := by omega
  rw [hh, hl]
  have b1 : l / 2 ^ k < 2 ^ (64 - k) := by
    rw [Nat.div_lt_iff_lt_mul p, Nat.mul_comm, e]; exact hl2
  have b2 : h % 2 ^ k < 2 ^ k := Nat.mod_lt _ p
  have b3 : (h % 2 ^ k + 1) * 2 ^ (64 - k) ≤ 2 ^ k * 2 ^ (64 - k) := Nat.mul_le_mul_right _ b2
  rw [e, Nat.add_mul, Nat.one_mul] at b3
  have d1 : n / 2 ^ k = h * 2 ^ (64 - k) + l / 2 ^ k := by
    rw [hn, ← e, show h * (2 ^ k * 2 ^ (64 - k)) + l = l + 2 ^ k * (h * 2 ^ (64 - k)) from by
      rw [Nat.add_comm, Nat.mul_left_comm], Nat.add_mul_div_left _ _ p, Nat.add_comm]
  have d2 : h * 2 ^ (64 - k) = (h / 2 ^ k) * 18446744073709551616 + (h % 2 ^ k) * 2 ^ (64 - k) := by
    rw [← e, ← Nat.mul_assoc, ← Nat.add_mul, Nat.mul_comm (h / 2 ^ k), Nat.div_add_mod]
  generalize h % 2 ^ k * 2 ^ (64 - k) = z at *
  generalize h / 2 ^ k = y at *
  generalize l / 2 ^ k = x at *
  generalize h * 2 ^ (64 - k) = u at *
  generalize 2 ^ (64 - k) = t at *
  rw [d1, d2]
  refine ⟨by omega, by omega, b1, by omega, by omega⟩

theorem shift_or (h l k : Nat) (n : Nat) (hk : k < 64) (hh : h = n / 18446744073709551616) (hl : l = n % 18446744073709551616) :
    bits .or .u64 (IntKind.u64.wrap ((h : Int) * 2 ^ (64 - (k : Int)).toNat)) ((l : Int) / 2 ^ (k : Int).toNat) = ((n / 2 ^ k % 18446744073709551616 : Nat) : Int) := by
  obtain ⟨_, e2, e3, e4, e5⟩ := shift_parts n k hk
  rw [← hh, ← hl] at e2
  rw [← hl] at e3
  rw [← hh] at e4 e5
  have c1 : IntKind.u64.wrap ((h : Int) * 2 ^ (64 - (k : Int)).toNat) = ((h % 2 ^ k * 2 ^ (64 - k) : Nat) : Int) := by
    rw [IntKind.wrap_u64, ← e4, show (64 - (k : Int)).toNat = 64 - k by omega, Int.natCast_emod, Int.natCast_mul, Int.natCast_pow]
    rfl
  have c2 : (l : Int) / 2 ^ (k : Int).toNat = ((l / 2 ^ k : Nat) : Int) := by
    rw [Int.toNat_natCast]; norm_cast
  have e6 : l / 2 ^ k < 18446744073709551616 := Nat.lt_of_lt_of_le e3 (by
    have : 2 ^ (64 - k) ≤ 2 ^ 64 := Nat.pow_le_pow_right (by omega) (by omega)
    exact this)
  have hu := u64_or ((h % 2 ^ k * 2 ^ (64 - k) : Nat) : Int) ((l / 2 ^ k : Nat) : Int) (Int.natCast_nonneg _) (Int.ofNat_lt.2 e5) (Int.natCast_nonneg _) (Int.ofNat_lt.2 e6)
  rw [c1, c2, hu, Int.toNat_natCast, Int.toNat_natCast, e2, Nat.mul_comm, Nat.two_pow_add_eq_or_of_lt e3]

theorem shifted_any (n k : Nat) (w : World) (hk : k ≤ 2000) (hn : n < 340282366920938463463374607431768211456) :
    Calls Try.prog 45 #[wideV n, .int .i64 (k : Int)] w fun e w' => e = .returned (wideV (n / 2 ^ k)) ∧ Below w.heap.size w w' := by
  unfold wideV
  rcases Nat.lt_or_ge k 64 with h | h
  · refine (shifted_near _ _ (k : Int) w (by omega) (by omega)).mono ?_
    rintro e w' ⟨rfl, hb⟩
    refine ⟨agg_eq ?_ ?_, hb⟩
    · rw [(shift_parts n k h).1, Int.toNat_natCast]; norm_cast
    · exact shift_or _ _ k n h rfl rfl
  · refine (shifted_far _ _ (k : Int) w (by omega) (by omega)).mono ?_
    rintro e w' ⟨rfl, hb⟩
    have e1 : n / 2 ^ k = n / 18446744073709551616 / 2 ^ (k - 64) := by
      rw [Nat.div_div_eq_div_mul, show (18446744073709551616 : Nat) = 2 ^ 64 from by decide, ← Nat.pow_add, show 64 + (k - 64) = k by omega]
    have e2 : n / 18446744073709551616 < 18446744073709551616 := by omega
    obtain ⟨m, hm⟩ : ∃ m, n / 18446744073709551616 = m := ⟨_, rfl⟩
    rw [e1, hm]
    rw [hm] at e2
    have e3 : m / 2 ^ min (k - 64) 64 = m / 2 ^ (k - 64) := by
      rcases Nat.le_total (k - 64) 64 with h1 | h1
      · rw [Nat.min_eq_left h1]
      · rw [Nat.min_eq_right h1]
        have : 2 ^ 64 ≤ 2 ^ (k - 64) := Nat.pow_le_pow_right (by omega) h1
        rw [Nat.div_eq_of_lt (by omega), Nat.div_eq_of_lt (by omega)]
    have e4 : m / 2 ^ (k - 64) ≤ m := Nat.div_le_self _ _
    refine ⟨agg_eq ?_ ?_, hb⟩
    · rw [Nat.div_eq_of_lt (by omega)]; rfl
    · rw [Nat.mod_eq_of_lt (by omega), ← e3, show ((k : Int) - 64).toNat = k - 64 by omega]; norm_cast
end Go.Proofs.Ytnlhgehibbgmoaa
