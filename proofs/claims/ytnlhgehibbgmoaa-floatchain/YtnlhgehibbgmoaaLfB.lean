/- The walk of the law FloatBack: it answers true. -/
import Derived.Test.YtnlhgehibbgmoaaLfO
namespace Go.Proofs.Ytnlhgehibbgmoaa
open Go.RowKit

/-- What the number nearest to a quotient is, if the quotient is near enough to whole parts. -/
theorem frq_of (n R : Nat) (h1 : n * 2 ^ (Fl.kU + 1) ≤ Fl.mg R * 20000 + 2 ^ Fl.kU) (h2 : Fl.mg R * 20000 + 2 ^ Fl.kU < (n + 1) * 2 ^ (Fl.kU + 1)) : frq R = n := by
  unfold frq
  exact Nat.div_eq_of_lt_le h1 h2
theorem cut39 (z mx : Nat) (h : z * 5497558138880000 ≤ mx * 36028797018963968 + 5 * 5497558138880000) : z * 10000 ≤ mx * 65536 + 50000 := by
  refine Nat.le_of_mul_le_mul_right (c := 549755813888) ?_ (by decide)
  rw [Nat.add_mul, Nat.mul_assoc, Nat.mul_assoc]; exact h
theorem cut39' (z mx : Nat) (h : mx * 36028797018963968 ≤ z * 5497558138880000 + 5 * 5497558138880000) : mx * 65536 ≤ z * 10000 + 50000 := by
  refine Nat.le_of_mul_le_mul_right (c := 549755813888) ?_ (by decide)
  rw [Nat.add_mul, Nat.mul_assoc, Nat.mul_assoc]; exact h
theorem near_last (z K nK u : Nat) (f1 : z * 10000 ≤ nK + 50000 * u) (f2 : nK ≤ z * 10000 + 50000 * u) (hK : 1048576 * u ≤ K) (hu : 0 < u) : nK * 2 ≤ z * 20000 + K ∧ z * 20000 + K < nK * 2 + K * 2 := by omega
theorem near_enough (n k c d ex mx q : Nat) (hm : mx * 2 ^ ex = n * 2 ^ Fl.kU) (hd : d + 16 = ex + c) (hex : 16 ≤ ex) (hq : Fl.kU = q + 20 + (ex - 16))
    (h1 : k * 2 ^ c * 5497558138880000 ≤ mx * 2 ^ 55 + 5 * 5497558138880000) (h2 : mx * 2 ^ 55 ≤ k * 2 ^ c * 5497558138880000 + 5 * 5497558138880000) :
    n * 2 ^ (Fl.kU + 1) ≤ k * 2 ^ d * 20000 + 2 ^ Fl.kU ∧ k * 2 ^ d * 20000 + 2 ^ Fl.kU < (n + 1) * 2 ^ (Fl.kU + 1) := by
  obtain ⟨e, rfl⟩ : ∃ e, ex = e + 16 := ⟨ex - 16, by omega⟩
  rw [Nat.add_sub_cancel] at hq
  have hd' : d = c + e := by omega
  subst hd'
  obtain ⟨u, hu⟩ : ∃ u, 2 ^ e = u := ⟨_, rfl⟩
  have hu0 : 0 < u := by rw [← hu]; exact Nat.two_pow_pos _
  have hK : 1048576 * u ≤ 2 ^ Fl.kU := by
    rw [hq, Nat.pow_add, Nat.pow_add, hu]
    have : 0 < 2 ^ q := Nat.two_pow_pos _
    have h3 : 1 * 1048576 ≤ 2 ^ q * 2 ^ 20 := Nat.mul_le_mul this (by decide)
    exact Nat.mul_le_mul_right _ (by omega)
  have e1 : k * 2 ^ (c + e) = k * 2 ^ c * u := by rw [Nat.pow_add, hu, Nat.mul_assoc]
  have e2 : mx * 65536 * u = n * 2 ^ Fl.kU := by
    rw [← hm, Nat.pow_add, hu, show (2 : Nat) ^ 16 = 65536 from by decide, Nat.mul_comm u, Nat.mul_assoc]
  have e5 : n * 2 ^ (Fl.kU + 1) = n * 2 ^ Fl.kU * 2 := by rw [Nat.pow_succ, Nat.mul_assoc]
  have e6 : (n + 1) * 2 ^ (Fl.kU + 1) = n * 2 ^ Fl.kU * 2 + 2 ^ Fl.kU * 2 := by rw [Nat.add_mul, Nat.one_mul, e5, Nat.pow_succ]
  rw [e1, e5, e6]
  rw [show (2 : Nat) ^ 55 = 36028797018963968 from by decide] at h1 h2
  have g1 := cut39 (k * 2 ^ c) mx h1
  have g2 := cut39' (k * 2 ^ c) mx h2
  have f1 := Nat.mul_le_mul_right u g1
  have f2 := Nat.mul_le_mul_right u g2
  rw [Nat.add_mul, e2] at f1
  rw [Nat.add_mul, e2] at f2
  have e3 : k * 2 ^ c * 10000 * u = k * 2 ^ c * u * 10000 := Nat.mul_right_comm _ _ _
  rw [e3] at f1 f2
  exact near_last (k * 2 ^ c * u) (2 ^ Fl.kU) (n * 2 ^ Fl.kU) u f1 f2 hK hu0

theorem back_num (a : Int) (h1 : -562949953421312 < a) (h2 : a < 562949953421312) : frN (toF a) = a ∧ frE (toF a) = 0 := by
  by_cases h0 : a = 0
  · subst h0; exact ⟨by decide +kernel, by decide +kernel⟩
  obtain ⟨k0, e0, K0, _⟩ := toI_norm a h0 (by omega) (by omega)
  obtain ⟨l, hll⟩ : ∃ l, a.natAbs.log2 = l := ⟨_, rfl⟩
  obtain ⟨n, hn⟩ : ∃ n, a.natAbs = n := ⟨_, rfl⟩
  have hl : l < 49 := by
    rw [← hll]
    exact Fl.log2_lt_of (by have : (2 : Nat) ^ 49 = 562949953421312 := by decide
                            omega) (by omega)
  rw [hll] at e0
  rw [hn] at hll K0
  have kl := K0.low
  have kh := K0.high
  have ke := K0.exact (by omega)
  rw [hll] at ke
  have hn0 : n ≠ 0 := by omega
  have hkh : k0 < 9007199254740992 := by
    have f2 : n * 2 ^ (52 - l) < 2 ^ (l + 1) * 2 ^ (52 - l) := Nat.mul_lt_mul_of_pos_right (by rw [← hll]; exact Nat.lt_log2_self) (Nat.two_pow_pos _)
    rw [← Nat.pow_add, show l + 1 + (52 - l) = 53 by omega, ← ke] at f2
    exact f2
  have hs : Fl.sgn (toI a) = decide (a < 0) := by rw [e0]; exact Fl.sgn_word _ _ (by omega)
  have hr : Fl.rng (toI a) = (l + 1022) * 4503599627370496 + k0 := by rw [e0]; exact Fl.rng_word _ _ (by omega)
  have hmk : Fl.mk (Fl.rng (toI a)) = l + 1022 := by rw [hr]; unfold Fl.mk; omega
  have hmg : Fl.mm (Fl.rng (toI a)) * 2 ^ (l + 1022) = n * 2 ^ Fl.kU := by
    rw [← hmk, ← Fl.mg_eq, hr, Fl.mg_kept _ _ kl kh, ke, Nat.mul_assoc, ← Nat.pow_add, show 52 - l + (l + 1022) = Fl.kU by have := Fl.kU_eq; omega]
  have y1 : Fl.rng 4666723172467343360 = 4666723172467343360 := by decide
  have y2 : Fl.mk 4666723172467343360 = 1035 := by decide
  have y3 : Fl.sgn 4666723172467343360 = false := by decide
  have y4 : Fl.mm 4666723172467343360 = 5497558138880000 := by decide
  obtain ⟨d, k, c, f1, f2, f3, f4, f5, f6, f7, f8⟩ := Fl.div_norm (toI a) 4666723172467343360 (by rw [hr]; omega) (by rw [hr]; omega) (by rw [y1]; decide) (by rw [y1]; decide) (by rw [y1, y2, hmk]; omega) (by rw [y1, y2, hmk]; omega)
  rw [hs, y3, Bool.xor_false] at f1
  rw [y1, y2, hmk] at f6
  rw [y1, y4] at f7 f8
  have ht : toF a = Fl.wordOf (decide (a < 0)) (d * 4503599627370496 + k) := by unfold toF; rw [f1]; rfl
  have hd90 : d ≤ 1090 := by omega
  have hrn : Fl.rng (toF a) = d * 4503599627370496 + k := by rw [ht]; exact Fl.rng_word _ _ (by omega)
  have hsn : Fl.sgn (toF a) = decide (a < 0) := by rw [ht]; exact Fl.sgn_word _ _ (by omega)
  have hfq : frq (d * 4503599627370496 + k) = n := by
    obtain ⟨b1, b2⟩ := near_enough n k c d (l + 1022) (Fl.mm (Fl.rng (toI a))) (Fl.kU - (20 + (l + 1006))) hmg (by omega) (by omega) (by have := Fl.kU_eq; omega) f7 f8
    exact frq_of n _ (by rw [Fl.mg_kept _ _ f2 f3]; exact b1) (by rw [Fl.mg_kept _ _ f2 f3]; exact b2)
  unfold frN frE
  rw [hrn, hsn, hfq]
  have t1 : ¬ 9218868437227405312 ≤ d * 4503599627370496 + k := by omega
  have t2 : ¬ 9218868437227405312 < d * 4503599627370496 + k := by omega
  have t3 : ¬ d * 4503599627370496 + k = 9218868437227405312 := by omega
  have t4 : ¬ 9000000000000000000 < n := by omega
  rw [if_neg t1, if_neg t4, if_neg t2, if_neg t3, if_neg t4]
  refine ⟨?_, rfl⟩
  by_cases hneg : a < 0
  · rw [decide_eq_true hneg, if_pos rfl]; omega
  · rw [decide_eq_false hneg, if_neg (by decide)]; omega

theorem b63 : (9223372036854775808 : Nat) = 2 ^ 63 := by decide
theorem neg_word (b : Nat) (hb : b < 18446744073709551616) : Fl.rng (b ^^^ 2 ^ 63) = Fl.rng b ∧ Fl.sgn (b ^^^ 2 ^ 63) = !Fl.sgn b ∧ b ^^^ 2 ^ 63 < 18446744073709551616 := by
  have hc : b / 9223372036854775808 = 0 ∨ b / 9223372036854775808 = 1 := by omega
  have h2 : (18446744073709551616 : Nat) = 2 ^ 64 := by decide
  have h3 : 2 ^ 63 < 2 ^ 64 := Nat.pow_lt_pow_right (by decide) (by decide)
  unfold Fl.rng Fl.sgn
  rw [h2] at hb ⊢
  rw [b63] at hc ⊢
  refine ⟨?_, ?_, Nat.xor_lt_two_pow hb h3⟩
  · rw [Nat.xor_mod_two_pow, Nat.mod_self, Nat.xor_zero]
  · rw [Nat.xor_div_two_pow, Nat.div_self (Nat.two_pow_pos 63)]
    rcases hc with hc | hc <;> rw [hc] <;> rfl
theorem fr_neg (b : Nat) (hb : b < 18446744073709551616) : frE (b ^^^ 2 ^ 63) = frE b ∧ frN (b ^^^ 2 ^ 63) = -frN b := by
  obtain ⟨h1, h2, _⟩ := neg_word b hb
  unfold frE frN
  rw [h1, h2]
  generalize frq (Fl.rng b) = q
  generalize Fl.rng b = r
  refine ⟨rfl, ?_⟩
  by_cases c1 : 9218868437227405312 ≤ r
  · rw [if_pos c1, if_pos c1, Int.neg_zero]
  · rw [if_neg c1, if_neg c1]
    by_cases c2 : 9000000000000000000 < q
    · rw [if_pos c2, if_pos c2, Int.neg_zero]
    · rw [if_neg c2, if_neg c2]
      cases Fl.sgn b
      · rw [if_pos Bool.not_false, if_neg Bool.false_ne_true]
      · rw [if_neg (by rw [Bool.not_true]; exact Bool.false_ne_true), if_pos rfl, Int.neg_neg]
theorem fr_range (b : Nat) : -9000000000000000000 ≤ frN b ∧ frN b ≤ 9000000000000000000 := by
  unfold frN
  by_cases c1 : 9218868437227405312 ≤ Fl.rng b
  · rw [if_pos c1]; omega
  · rw [if_neg c1]
    by_cases c2 : 9000000000000000000 < frq (Fl.rng b)
    · rw [if_pos c2]; omega
    · rw [if_neg c2]; split <;> omega
theorem toF_lt (a : Int) (h1 : -9000000000000000000 ≤ a) (h2 : a ≤ 9000000000000000000) : toF a < 18446744073709551616 := by
  by_cases h0 : a = 0
  · subst h0; decide +kernel
  · obtain ⟨d, k, _, e, k1, k2, _, _⟩ := toF_norm a h0 h1 h2
    rw [e]; exact Fl.word_lt _ _ (by omega)

set_option maxRecDepth 100000 in
set_option maxHeartbeats 2000000 in
theorem law_back (a : Int) (b : Nat) (w : World) (hb : b < 18446744073709551616) :
    Calls Try.prog 7 #[.int .i64 a, .int .u64 (b : Int)] w fun e w' => e = .returned (.bool true) ∧ Below w.heap.size w w' := by
  have hr : -562949953421312 < a.tmod 562949953421312 ∧ a.tmod 562949953421312 < 562949953421312 := by
    have h1 : (a.tmod 562949953421312).natAbs = a.natAbs % 562949953421312 := Int.natAbs_tmod a 562949953421312
    have h2 := Nat.mod_lt a.natAbs (show 0 < 562949953421312 by omega)
    omega
  obtain ⟨m, hm⟩ : ∃ m, a.tmod 562949953421312 = m := ⟨_, rfl⟩
  rw [hm] at hr
  have hgm : goodN m = m := by unfold goodN; rw [if_pos ((goodB_iff m).2 (by omega))]
  have HB := hide (back_num m hr.1 hr.2)
  have HT : Hid (toV m = toF m ∧ toF m < 18446744073709551616) := hide ⟨by unfold toV; rw [hgm], toF_lt m (by omega) (by omega)⟩
  have hneg : ∀ w, (Op.unary .neg (.float .f64 b)).run Try.prog w = .ok (.float .f64 (b ^^^ 2 ^ 63)) w := fun _ => rfl
  have h1 := fr_neg b hb
  have h2 := (neg_word b hb).2.2
  generalize b ^^^ 2 ^ 63 = nb at *
  have HF := hide (And.intro hb (And.intro h1 (And.intro (fr_range b) h2)))
  have fb := from_bits b
  clear hr hgm hb h1 h2
  go_enter Try.func7, Try.ntmps7
  go_wp2_with fail
  clear hm
  refine (to_any _ _).mono ?_
  rintro e w1 ⟨rfl, b1⟩
  rw [(unhide HT).1]
  go_wp2_with fail
  refine (from_any _ _ (unhide HT).2).mono ?_
  rintro e w2 ⟨rfl, b2⟩
  rw [(unhide HB).1, (unhide HB).2]
  have b12 := below_then b1 b2
  clear b1 b2
  go_wp2_with fail
  refine (from_any b _ (unhide HF).1).mono ?_
  rintro e w3 ⟨rfl, b3⟩
  have b13 := below_then b12 b3
  clear b12 b3
  obtain ⟨N, hN⟩ : ∃ N, frN b = N := ⟨_, rfl⟩
  obtain ⟨E, hE⟩ : ∃ E, frE b = E := ⟨_, rfl⟩
  have HNE := hide (And.intro hN hE)
  rw [hN, hE] at HF ⊢
  clear hN hE
  go_wp2_with fail
  refine (from_any nb _ (unhide HF).2.2.2).mono ?_
  rintro e w4 ⟨rfl, b4⟩
  have b14 := below_then b13 b4
  clear b13 b4 hneg fb
  rw [(unhide HF).2.1.1, (unhide HF).2.1.2]
  obtain ⟨n1, n2⟩ := (unhide HF).2.2.1
  go_wp2_with fail
  refine (wakes_any _).mono ?_
  rintro e w5 ⟨rfl, b5⟩
  have b15 := below_then b14 b5
  clear b14 b5
  go_wp2
  go_ret
  exact ⟨by simp, b15⟩
end Go.Proofs.Ytnlhgehibbgmoaa
