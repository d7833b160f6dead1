/- The contract of From. -/
import Derived.Test.YtnlhgehibbgmoaaFlF
namespace Go.Proofs.Ytnlhgehibbgmoaa
open Go.RowKit

/-- The parts nearest to what a rung says. -/
def frq (r : Nat) : Nat := (Fl.mg r * 20000 + 2 ^ Fl.kU) / 2 ^ (Fl.kU + 1)
def frN (b : Nat) : Int := if 9218868437227405312 ≤ Fl.rng b then 0 else if 9000000000000000000 < frq (Fl.rng b) then 0 else if Fl.sgn b = true then -(frq (Fl.rng b) : Int) else (frq (Fl.rng b) : Int)
def frE (b : Nat) : Int := if 9218868437227405312 < Fl.rng b then 4 else if Fl.rng b = 9218868437227405312 then 5 else if 9000000000000000000 < frq (Fl.rng b) then 5 else 0

theorem half_up (X k : Nat) : (X / 2 ^ k + 1) / 2 = (X + 2 ^ k) / (2 ^ k * 2) := by
  have p : 0 < 2 ^ k := Nat.two_pow_pos k
  rw [← Nat.div_div_eq_div_mul, Nat.add_div_right _ p]
theorem half_up2 (M k : Nat) : (M * 10000 / 2 ^ k + 1) / 2 = (M * 20000 + 2 ^ (k + 1)) / 2 ^ (k + 1 + 1) := by
  have e : M * 20000 = M * 10000 * 2 := by omega
  rw [half_up, e]
  generalize M * 10000 = X
  rw [Nat.pow_succ 2 (k + 1), Nat.pow_succ 2 k, ← Nat.add_mul, Nat.mul_div_mul_right _ _ (by omega)]
theorem below_then {w a b : World} (h : Below w.heap.size w a) (k : Below a.heap.size a b) : Below w.heap.size w b := h.trans (k.mono h.size)
theorem frq_near (r : Nat) (n : Nat) (h : n + Fl.mk r = Fl.kU) (hn : 1 ≤ n) : (Fl.mm r * 10000 / 2 ^ (n - 1) + 1) / 2 = frq r := by
  unfold frq
  rw [Fl.mg_eq, ← h, show n + Fl.mk r + 1 = n + 1 + Fl.mk r by omega, Nat.pow_add 2 n, Nat.pow_add 2 (n + 1)]
  have e1 : Fl.mm r * 2 ^ Fl.mk r * 20000 + 2 ^ n * 2 ^ Fl.mk r = (Fl.mm r * 20000 + 2 ^ n) * 2 ^ Fl.mk r := by
    rw [Nat.add_mul, Nat.mul_right_comm]
  rw [e1, Nat.mul_div_mul_right _ _ (Nat.two_pow_pos _)]
  obtain ⟨k, rfl⟩ : ∃ k, n = k + 1 := ⟨n - 1, by omega⟩
  rw [Nat.add_sub_cancel]
  exact half_up2 _ _
theorem frq_great (r : Nat) (h : Fl.kU ≤ Fl.mk r) : 9000000000000000000 < frq r := by
  unfold frq
  have h1 : Fl.mk r ≠ 0 := by have := Fl.kU_eq; omega
  have h2 : 4503599627370496 ≤ r := by unfold Fl.mk at h1; omega
  have h3 := Fl.mm_ge r h2
  have p : 0 < 2 ^ Fl.kU := Fl.un_pos
  have h4 : 2 ^ Fl.kU ≤ 2 ^ Fl.mk r := Nat.pow_le_pow_right (by omega) h
  have h5 : 4503599627370496 * 2 ^ Fl.kU ≤ Fl.mg r := by
    rw [Fl.mg_eq]; exact Nat.mul_le_mul h3 h4
  have h6 : 9000000000000000001 * 2 ^ (Fl.kU + 1) ≤ Fl.mg r * 20000 + 2 ^ Fl.kU := by
    rw [Nat.pow_succ]; generalize 2 ^ Fl.kU = u at *; omega
  have h7 := (Nat.le_div_iff_mul_le (Nat.two_pow_pos (Fl.kU + 1))).2 h6
  generalize (Fl.mg r * 20000 + 2 ^ Fl.kU) / 2 ^ (Fl.kU + 1) = z at *
  omega

theorem cls_cases (b : Nat) : (9218868437227405312 < Fl.rng b ∧ clsV b = 0) ∨ (Fl.rng b = 9218868437227405312 ∧ (clsV b = 1 ∨ clsV b = 6)) ∨ Fl.rng b < 9218868437227405312 := by
  unfold clsV
  by_cases h1 : 9218868437227405312 < Fl.rng b
  · rw [if_pos h1]; exact Or.inl ⟨h1, rfl⟩
  · rw [if_neg h1]
    by_cases h2 : Fl.rng b = 9218868437227405312
    · rw [if_pos h2]; refine Or.inr (Or.inl ⟨h2, ?_⟩); cases Fl.sgn b
      · exact Or.inr rfl
      · exact Or.inl rfl
    · exact Or.inr (Or.inr (by omega))

theorem raw_yes (a : Int) (w : World) (h : goodB a = true) :
    Calls Try.prog 24 #[.int .i64 a] w fun e w' => e = .returned (.tuple #[.int .i64 a, .int .i64 0]) ∧ Below w.heap.size w w' := by
  have := raw_any a w
  rw [h] at this
  exact this
theorem raw_no (a : Int) (w : World) (h : goodB a = false) :
    Calls Try.prog 24 #[.int .i64 a] w fun e w' => e = .returned (.tuple #[.int .i64 0, .int .i64 5]) ∧ Below w.heap.size w w' := by
  have := raw_any a w
  rw [h] at this
  exact this

set_option maxHeartbeats 1000000 in
theorem from_bad (b : Nat) (w : World) (hb : b < 18446744073709551616) (h : 9218868437227405312 ≤ Fl.rng b) :
    Calls Try.prog 16 #[.float .f64 b] w fun e w' => e = .returned (.tuple #[.int .i64 (frN b), .int .i64 (frE b)]) ∧ w' = w := by
  unfold frN frE
  rw [if_pos h]
  have HB := hide hb
  clear hb
  rcases cls_cases b with ⟨h1, hc⟩ | ⟨h1, hc⟩ | h1
  · rw [if_pos h1]
    have HC := hide hc
    clear hc h h1
    go_enter Try.func16, Try.ntmps16
    go_wp2_with fail
    refine (of_any b _ (unhide HB)).mono ?_
    rintro e w2 ⟨rfl, rfl⟩
    rw [unhide HC]
    go_wp2
    go_ret2
    exact ⟨rfl, rfl⟩
  · rw [if_neg (by omega), if_pos h1]
    have HC := hide hc
    clear hc h h1
    go_enter Try.func16, Try.ntmps16
    go_wp2_with fail
    refine (of_any b _ (unhide HB)).mono ?_
    rintro e w2 ⟨rfl, rfl⟩
    rcases unhide HC with hc | hc
    · rw [hc]
      clear hc
      go_wp2
      go_ret2
      exact ⟨rfl, rfl⟩
    · rw [hc]
      clear hc
      go_wp2
      go_ret2
      exact ⟨rfl, rfl⟩
  · omega

set_option maxHeartbeats 1000000 in
theorem from_great (b : Nat) (w : World) (hb : b < 18446744073709551616) (h : Fl.rng b < 9218868437227405312) (hk : Fl.kU ≤ Fl.mk (Fl.rng b)) :
    Calls Try.prog 16 #[.float .f64 b] w fun e w' => e = .returned (.tuple #[.int .i64 0, .int .i64 5]) ∧ w' = w := by
  obtain ⟨k, hk', k0, k1, k6⟩ := cls_fin b h
  have hp : 0 ≤ (Fl.mk (Fl.rng b) : Int) - 1074 := by have := Fl.kU_eq; omega
  have HB := hide (And.intro hb h)
  have HK := hide hk'
  have HP := hide (parts_fin b w hb h)
  clear hb h hk hk'
  obtain ⟨p, hpp⟩ : ∃ p, (Fl.mk (Fl.rng b) : Int) - 1074 = p := ⟨_, rfl⟩
  rw [hpp] at hp HP
  clear hpp
  go_enter Try.func16, Try.ntmps16
  go_wp2_with fail
  refine (of_any b _ (unhide HB).1).mono ?_
  rintro e w2 ⟨rfl, rfl⟩
  rw [unhide HK]
  go_wp2_with fail
  refine (unhide HP).mono ?_
  rintro e w2 ⟨rfl, rfl⟩
  go_wp2
  go_ret2
  exact ⟨rfl, rfl⟩

theorem wrap64_id {a : Int} (h1 : -9223372036854775808 ≤ a) (h2 : a ≤ 9223372036854775807) : wrap64 a = a := by unfold wrap64; omega

set_option maxRecDepth 100000 in
set_option maxHeartbeats 2000000 in
theorem from_fin (b : Nat) (w : World) (hb : b < 18446744073709551616) (h : Fl.rng b < 9218868437227405312) (hk : Fl.mk (Fl.rng b) < Fl.kU) :
    Calls Try.prog 16 #[.float .f64 b] w fun e w' => e = .returned (.tuple #[.int .i64 (frN b), .int .i64 (frE b)]) ∧ Below w.heap.size w w' := by
  obtain ⟨k, hk', k0, k1, k6⟩ := cls_fin b h
  have hkU := Fl.kU_eq
  obtain ⟨n, hn⟩ : ∃ n, n + Fl.mk (Fl.rng b) = Fl.kU := ⟨Fl.kU - Fl.mk (Fl.rng b), by omega⟩
  have hq := frq_near (Fl.rng b) n hn (by omega)
  have hm := Fl.mm_lt (Fl.rng b)
  have hfN : frN b = if 9000000000000000000 < frq (Fl.rng b) then 0 else if Fl.sgn b = true then -(frq (Fl.rng b) : Int) else (frq (Fl.rng b) : Int) := by unfold frN; rw [if_neg (by omega)]
  have hfE : frE b = if 9000000000000000000 < frq (Fl.rng b) then 5 else 0 := by unfold frE; rw [if_neg (by omega), if_neg (by omega)]
  rw [hfN, hfE]
  have HP := hide (parts_fin b w hb h)
  have HB := hide (And.intro hb h)
  have HK := hide hk'
  obtain ⟨p, hpp⟩ : ∃ p, (Fl.mk (Fl.rng b) : Int) - 1074 = p := ⟨_, rfl⟩
  obtain ⟨m, hmm⟩ : ∃ m, Fl.mm (Fl.rng b) = m := ⟨_, rfl⟩
  obtain ⟨q, hqq⟩ : ∃ q, frq (Fl.rng b) = q := ⟨_, rfl⟩
  obtain ⟨s, hss⟩ : ∃ s, Fl.sgn b = s := ⟨_, rfl⟩
  have hp : p < 0 := by omega
  have hpn : -p = (n : Int) := by omega
  have hn1 : 1 ≤ n := by omega
  have hn2 : n ≤ 2000 := by omega
  rw [hmm] at hm
  rw [hmm, hqq] at hq
  rw [hqq, hss]
  obtain ⟨N, hN⟩ : ∃ N : Int, (if 9000000000000000000 < q then 0 else if s = true then -(q : Int) else (q : Int)) = N := ⟨_, rfl⟩
  obtain ⟨E, hE⟩ : ∃ E : Int, (if 9000000000000000000 < q then 5 else 0) = E := ⟨_, rfl⟩
  rw [hN, hE]
  have HNE := hide (And.intro hN hE)
  clear hN hE
  rw [hpp, hmm, hss] at HP
  have HPN := hide hpn
  have HQ := hide hq
  clear hb h hk hk' hn hfN hfE hpp hmm hqq hss hkU hpn hq
  have hp' : -2000 ≤ p := by have := unhide HPN; omega
  go_enter Try.func16, Try.ntmps16
  go_wp2_with fail
  refine (of_any b _ (unhide HB).1).mono ?_
  rintro e w2 ⟨rfl, rfl⟩
  rw [unhide HK]
  go_wp2_with fail
  refine (unhide HP).mono ?_
  rintro e w2 ⟨rfl, rfl⟩
  go_wp2_with fail
  refine (product_two m 10000 _ _ _ rfl rfl (by omega) (by omega)).mono ?_
  rintro e w1 ⟨⟨h1, l1, rfl, T1⟩, b1⟩
  go_wp2_with fail
  refine (rounded_two (m * 10000) n _ _ _ _ (unhide T1) (unhide HPN) hn1 hn2 (by omega)).mono ?_
  rintro e w3 ⟨⟨h2, l2, rfl, T2⟩, b2⟩
  rw [unhide HQ] at T2
  go_wp2_with fail
  refine (order_two q 9000000000000000000 _ _ _ _ _ (unhide T2) ⟨rfl, rfl⟩).mono ?_
  rintro e w4 ⟨rfl, b3⟩
  have hp3 := pair_below (pair_new w3 (.int .u64 h2) (.int .u64 l2)) b3 (by simp)
  have B3 : Below w2.heap.size w2 w4 := by
    have c1 := below_then b1 b2
    have c2 : Below w2.heap.size w2 (w3.alloc (.cells #[.int .u64 h2, .int .u64 l2] 55)) := c1.alloc c1.size _
    exact c2.trans (b3.mono c2.size)
  have HB3 := hide B3
  have HP3 := hide hp3
  clear b1 b2 b3 B3
  by_cases hg : 9000000000000000000 < q
  · have HG := hide hg
    rw [show ordV q 9000000000000000000 = 1 from by unfold ordV; rw [if_neg (by omega), if_neg (by omega)]]
    clear hp3 hg
    go_wp2
    go_ret2
    exact ⟨ret_ne (by rw [← (unhide HNE).1, if_pos (unhide HG)]) (by rw [← (unhide HNE).2, if_pos (unhide HG)]), unhide HB3⟩
  · have ho : ordV q 9000000000000000000 ≤ 0 := by
      unfold ordV
      by_cases he : q = 9000000000000000000
      · rw [if_pos he]; omega
      · rw [if_neg he, if_pos (by omega)]; omega
    have HG := hide hg
    have cl := pair_c1 hp3
    have el : l2 = (q : Int) := by
      have := (unhide T2).2
      rw [Nat.mod_eq_of_lt (by omega)] at this; exact this
    subst el
    obtain ⟨o, hoo⟩ : ∃ o, ordV q 9000000000000000000 = o := ⟨_, rfl⟩
    rw [hoo] at ho ⊢
    have hq0 : (0 : Int) ≤ (q : Int) := Int.natCast_nonneg _
    have hq9 : (q : Int) ≤ 9000000000000000000 := by omega
    have G1 : Hid (goodB (q : Int) = true) := hide (by rw [goodB_iff]; omega)
    have G2 : Hid (goodB (-(q : Int)) = true) := hide (by rw [goodB_iff]; omega)
    clear hp3 hoo hg
    cases s
    · go_wp2_with fail
      refine (raw_yes (q : Int) _ (unhide G1)).mono ?_
      rintro e w5 ⟨rfl, b5⟩
      go_wp2
      go_ret2
      exact ⟨ret_ne (by rw [← (unhide HNE).1, if_neg (unhide HG)]; rfl) (by rw [← (unhide HNE).2, if_neg (unhide HG)]), below_then (unhide HB3) b5⟩
    · go_wp2_with fail
      refine (raw_yes (-(q : Int)) _ (unhide G2)).mono ?_
      rintro e w5 ⟨rfl, b5⟩
      go_wp2
      go_ret2
      exact ⟨ret_ne (by rw [← (unhide HNE).1, if_neg (unhide HG)]; rfl) (by rw [← (unhide HNE).2, if_neg (unhide HG)]), below_then (unhide HB3) b5⟩
theorem from_any (b : Nat) (w : World) (hb : b < 18446744073709551616) :
    Calls Try.prog 16 #[.float .f64 b] w fun e w' => e = .returned (.tuple #[.int .i64 (frN b), .int .i64 (frE b)]) ∧ Below w.heap.size w w' := by
  by_cases h : 9218868437227405312 ≤ Fl.rng b
  · refine (from_bad b w hb h).mono ?_
    rintro e w' ⟨rfl, rfl⟩
    exact ⟨rfl, Below.refl _ _⟩
  · by_cases hk : Fl.mk (Fl.rng b) < Fl.kU
    · exact from_fin b w hb (by omega) hk
    · refine (from_great b w hb (by omega) (by omega)).mono ?_
      rintro e w' ⟨rfl, rfl⟩
      have := frq_great (Fl.rng b) (by omega)
      refine ⟨?_, Below.refl _ _⟩
      unfold frN frE
      rw [if_neg h, if_pos this, if_neg (by omega : ¬ 9218868437227405312 < Fl.rng b), if_neg (by omega : ¬ Fl.rng b = 9218868437227405312), if_pos this]
end Go.Proofs.Ytnlhgehibbgmoaa
