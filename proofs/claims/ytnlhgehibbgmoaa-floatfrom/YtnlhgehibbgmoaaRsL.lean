/- The contract of the reference's From. -/
import Derived.Test.YtnlhgehibbgmoaaRsK
import Derived.Test.YtnlhgehibbgmoaaRsG
import Derived.Test.YtnlhgehibbgmoaaRgA
namespace Go.Proofs.Ytnlhgehibbgmoaa
open Go.RowKit

theorem fr_sgn (b q : Nat) (h : Fl.rng b < 9218868437227405312) (hq : frq (Fl.rng b) = q) : frN b = sgnN (Fl.sgn b) (q : Int) ∧ frE b = sgnE (q : Int) := by
  unfold frN frE sgnN sgnE
  rw [hq, if_neg (by omega), if_neg (by omega : ¬ 9218868437227405312 < Fl.rng b), if_neg (by omega : ¬ Fl.rng b = 9218868437227405312)]
  by_cases hc : 9000000000000000000 < q
  · have hc' : (9000000000000000000 : Int) < (q : Int) := by omega
    rw [if_pos hc, if_pos hc, if_pos hc', if_pos hc']; exact ⟨rfl, rfl⟩
  · have hc' : ¬ (9000000000000000000 : Int) < (q : Int) := by omega
    rw [if_neg hc, if_neg hc, if_neg hc', if_neg hc']; exact ⟨rfl, rfl⟩
theorem fr_small (b : Nat) (h : Fl.rng b < 9218868437227405312) (hq : frq (Fl.rng b) = 0) : frN b = 0 ∧ frE b = 0 := by
  obtain ⟨h1, h2⟩ := fr_sgn b 0 h hq
  rw [h1, h2]
  cases Fl.sgn b <;> exact ⟨rfl, rfl⟩
theorem fr_great (b : Nat) (h : Fl.rng b < 9218868437227405312) (hq : 9000000000000000000 < frq (Fl.rng b)) : frN b = 0 ∧ frE b = 5 := by
  unfold frN frE
  rw [if_neg (by omega), if_pos hq, if_neg (by omega : ¬ 9218868437227405312 < Fl.rng b), if_neg (by omega : ¬ Fl.rng b = 9218868437227405312), if_pos hq]
  exact ⟨rfl, rfl⟩
theorem frq_zero (r : Nat) (h : Fl.mm r = 0) : frq r = 0 := by
  unfold frq
  rw [Fl.mg_eq, h, Nat.zero_mul, Nat.zero_mul, Nat.zero_add]
  exact Nat.div_eq_of_lt (Nat.pow_lt_pow_right (by omega) (by omega))
theorem small_sum (m u K : Nat) (hm : m < 9007199254740992) (hK : 295147905179352825856 * u ≤ K) (hu : 0 < u) : m * u * 20000 + K < K * 2 := by
  have : m * u ≤ 9007199254740992 * u := Nat.mul_le_mul_right _ (by omega)
  omega
theorem frq_low (r : Nat) (h : Fl.mk r ≤ 1000) : frq r = 0 := by
  unfold frq
  refine Nat.div_eq_of_lt ?_
  rw [Fl.mg_eq, Nat.pow_succ]
  refine small_sum _ _ _ (Fl.mm_lt r) ?_ (Nat.two_pow_pos _)
  rw [show (295147905179352825856 : Nat) = 2 ^ 68 from by decide, ← Nat.pow_add]
  exact Nat.pow_le_pow_right (by omega) (by rw [Fl.kU_eq]; omega)
theorem frq_at (r n : Nat) (h : n + Fl.mk r = Fl.kU) (hn : 1 ≤ n) : frq r = (Fl.mm r * 20000 + 2 ^ n) / 2 ^ (n + 1) := by
  rw [← frq_near r n h hn]
  obtain ⟨k, rfl⟩ : ∃ k, n = k + 1 := ⟨n - 1, by omega⟩
  rw [Nat.add_sub_cancel]
  exact half_up2 _ _

theorem dig_five1 : Dc.Dig [0, 0, 0, 0, 1] := by
  intro x hx
  simp at hx
  omega
theorem val_five1 : Dc.val [0, 0, 0, 0, 1] = 10000 := by decide
theorem val_two : Dc.val [2] = 2 := by decide

set_option maxHeartbeats 1000000 in
theorem fromref_bad (b : Nat) (w : World) (hb : b < 18446744073709551616) (h : 9218868437227405312 ≤ Fl.rng b) :
    Calls Try.prog 17 #[.int .u64 (b : Int)] w fun e w' => e = .returned (.tuple #[.int .i64 (frN b), .int .i64 (frE b)]) ∧ Below w.heap.size w w' := by
  unfold frN frE
  rw [if_pos h]
  have HB := hide hb
  clear hb
  rcases cls_cases b with ⟨h1, hc⟩ | ⟨h1, hc⟩ | h1
  · rw [if_pos h1]
    have HC := hide hc
    clear hc h h1
    go_enter Try.func17, Try.ntmps17
    go_wp2_with fail
    refine (class_ref b _ (unhide HB)).mono ?_
    rintro e w2 ⟨rfl, rfl⟩
    rw [unhide HC]
    go_wp2
    go_ret2
    exact ⟨rfl, Below.refl _ _⟩
  · rw [if_neg (by omega), if_pos h1]
    have HC := hide hc
    clear hc h h1
    go_enter Try.func17, Try.ntmps17
    go_wp2_with fail
    refine (class_ref b _ (unhide HB)).mono ?_
    rintro e w2 ⟨rfl, rfl⟩
    rcases unhide HC with hc | hc
    · rw [hc]
      clear hc
      go_wp2
      go_ret2
      exact ⟨rfl, Below.refl _ _⟩
    · rw [hc]
      clear hc
      go_wp2
      go_ret2
      exact ⟨rfl, Below.refl _ _⟩
  · omega

set_option maxRecDepth 100000 in
set_option maxHeartbeats 4000000 in
theorem fromref_fin (b : Nat) (w : World) (hb : b < 18446744073709551616) (h : Fl.rng b < 9218868437227405312) :
    Calls Try.prog 17 #[.int .u64 (b : Int)] w fun e w' => e = .returned (.tuple #[.int .i64 (frN b), .int .i64 (frE b)]) ∧ Below w.heap.size w w' := by
  obtain ⟨c, hc, c0, c1, c6⟩ := cls_fin b h
  have hP := parts_ref b w hb
  rw [if_neg (by omega), if_neg (by omega)] at hP
  have hkU := Fl.kU_eq
  have hml := Fl.mm_lt (Fl.rng b)
  obtain ⟨m, hm⟩ : ∃ m, Fl.mm (Fl.rng b) = m := ⟨_, rfl⟩
  obtain ⟨s, hs⟩ : ∃ s, Fl.sgn b = s := ⟨_, rfl⟩
  obtain ⟨e, he⟩ : ∃ e : Int, (Fl.mk (Fl.rng b) : Int) - 1074 = e := ⟨_, rfl⟩
  obtain ⟨N, hN⟩ : ∃ N, frN b = N := ⟨_, rfl⟩
  obtain ⟨E, hE⟩ : ∃ E, frE b = E := ⟨_, rfl⟩
  have hmk : Fl.mk (Fl.rng b) ≤ 2046 := by unfold Fl.mk; omega
  have he1 : -1074 ≤ e := by omega
  have he2 : e ≤ 1000 := by omega
  rw [hm, hs, he] at hP
  rw [hN, hE]
  -- what the answer is, case by case
  have A0 : Hid ((m = 0 ∨ e < -120) → N = 0 ∧ E = 0) := hide (fun hx => by
    rw [← hN, ← hE]
    refine fr_small b h ?_
    rcases hx with hx | hx
    · exact frq_zero _ (hm.trans hx)
    · exact frq_low _ (by omega))
  have A1 : Hid (0 ≤ e → N = 0 ∧ E = 5) := hide (fun hx => by
    rw [← hN, ← hE]
    exact fr_great b h (frq_great _ (by omega)))
  have A2 : Hid (∀ n : Nat, e = -(n : Int) → 1 ≤ n → N = sgnN s (((m * 20000 + 2 ^ n) / 2 ^ (n + 1) : Nat) : Int) ∧ E = sgnE (((m * 20000 + 2 ^ n) / 2 ^ (n + 1) : Nat) : Int)) := hide (fun n hn h1 => by
    rw [← hN, ← hE, ← hs, ← hm]
    exact fr_sgn b _ h (frq_at _ n (by omega) h1))
  have A3 : Hid (0 ≤ e → 4503599627370496 ≤ m) := hide (fun hx => by
    rw [← hm]; exact Fl.mm_ge _ (by unfold Fl.mk at he; omega))
  rw [hm] at hml
  have HP := hide hP
  have HC := hide (And.intro hb hc)
  clear hP hb hc h hkU hm hs he hN hE hmk
  go_enter Try.func17, Try.ntmps17
  go_wp2_with fail
  refine (class_ref b _ (unhide HC).1).mono ?_
  rintro e' w0 ⟨rfl, rfl⟩
  rw [(unhide HC).2]
  go_wp2_with fail
  refine (unhide HP).mono ?_
  rintro e' w0 ⟨rfl, rfl⟩
  by_cases m0 : m = 0
  · have R := unhide A0 (Or.inl m0)
    obtain ⟨rfl, rfl⟩ := R
    subst m0
    go_wp2
    go_ret2
    exact ⟨rfl, Below.refl _ _⟩
  have mb : ((m : Int) == 0) = false := by rw [beq_eq_false_iff_ne]; omega
  have M0 := hide m0
  clear m0
  by_cases el : e < -120
  · have R := unhide A0 (Or.inr el)
    obtain ⟨rfl, rfl⟩ := R
    go_wp2
    go_ret2
    exact ⟨rfl, Below.refl _ _⟩
  have el' : decide (e < -120) = false := decide_eq_false el
  have HEL := hide el
  by_cases eh : 70 < e
  · have R := unhide A1 (by omega)
    obtain ⟨rfl, rfl⟩ := R
    go_wp2
    go_ret2
    exact ⟨rfl, Below.refl _ _⟩
  go_wp2_with fail
  clear mb el' c0 c1 c6
  refine (digits2_ref m _ (by omega)).mono ?_
  rintro e' w1 ⟨b1, v1, z1, rfl, r1, d1, k1, n1, l1, _⟩
  have H1 := hide (And.intro r1 (And.intro d1 (And.intro k1 n1)))
  clear r1 d1 k1 n1
  go_wp2_with fail
  refine (product_ref _ _ z1 [0, 0, 0, 0, 1] _ (by omega) (by simp) ((unhide H1).1.below (Nat.le_refl _) (below_alloc _ _)) (arr_five _ _ _ _ _ _ _) (unhide H1).2.1 dig_five1).mono ?_
  rintro e' w2 ⟨b2, v2, z2, rfl, r2, d2, k2, n2, l2, _⟩
  have e2 : Dc.val z2 = (m : Int) * 10000 := by rw [n2, (unhide H1).2.2.2, val_five1]
  have l2' : z2.length ≤ 30 := by simp at l2; omega
  have H2 := hide (And.intro r2 (And.intro d2 (And.intro k2 e2)))
  have B2 : Below w0.heap.size w0 w2 := (b1.alloc b1.size _).trans (b2.mono (by simp; have := b1.size; omega))
  clear r2 d2 k2 n2 e2 l2 b1 b2 l1
  by_cases e0 : 0 ≤ e
  · obtain ⟨n, rfl⟩ := Int.eq_ofNat_of_zero_le e0
    have R := hide (unhide A1 e0)
    have M4 := unhide A3 e0
    go_wp2_with fail
    refine (power_ref n _ (by omega)).mono ?_
    rintro e' w3 ⟨b3, v3, z3, rfl, r3, d3, k3, n3, l3⟩
    have H3 := hide (And.intro r3 (And.intro d3 (And.intro k3 n3)))
    have B3 := below_next B2 b3
    have A2' := hide ((unhide H2).1.below (Nat.le_refl _) b3)
    clear r3 d3 k3 n3 b3 B2
    go_wp2_with fail
    refine (product_ref _ _ z2 z3 _ (by omega) (by omega) (unhide A2') (unhide H3).1 (unhide H2).2.1 (unhide H3).2.1).mono ?_
    rintro e' w4 ⟨b4, v4, z4, rfl, r4, d4, k4, n4, l4, _⟩
    have B4 := below_next B3 b4
    have e4 : 9000000000000000000 < Dc.val z4 := by
      rw [n4, (unhide H2).2.2.2, (unhide H3).2.2.2]
      have p2 : (0 : Int) < 2 ^ n := Int.pow_pos (by omega)
      have p3 : (m : Int) * 10000 * 1 ≤ (m : Int) * 10000 * 2 ^ n := Int.mul_le_mul_of_nonneg_left (by omega) (by omega)
      omega
    have l4' : z4.length ≤ 200 := by omega
    have H4 := hide (And.intro r4 (And.intro d4 (And.intro k4 e4)))
    clear r4 d4 k4 n4 b4 B3 l4 e4
    go_wp2_with fail
    refine (number_ref _ z4 s _ (by omega) (unhide H4).1 (unhide H4).2.1 (unhide H4).2.2.1).mono ?_
    rintro e' w5 ⟨rfl, b5⟩
    have B5 := below_next B4 b5
    have E5 : sgnN s (Dc.val z4) = 0 ∧ sgnE (Dc.val z4) = 5 := by
      unfold sgnN sgnE; rw [if_pos (unhide H4).2.2.2, if_pos (unhide H4).2.2.2]; exact ⟨rfl, rfl⟩
    simp only []
    rw [E5.1, E5.2]
    clear b5 B4 E5
    go_wp2
    go_ret2
    exact ⟨by rw [(unhide R).1, (unhide R).2]; rfl, B5⟩
  · obtain ⟨n, hn⟩ : ∃ n : Nat, e = -(n : Int) := ⟨(-e).toNat, by omega⟩
    have hn1 : 1 ≤ n := by omega
    have hn2 : n ≤ 120 := by omega
    have R := hide (unhide A2 n hn hn1)
    have HNE : Hid (-e = (n : Int)) := hide (by omega)
    clear hn
    go_wp2_with fail
    rw [unhide HNE]
    refine (power_ref n _ (by omega)).mono ?_
    rintro e' w3 ⟨b3, v3, z3, rfl, r3, d3, k3, n3, l3⟩
    have H3 := hide (And.intro r3 (And.intro d3 (And.intro k3 n3)))
    have B3 := below_next B2 b3
    have A2' := hide ((unhide H2).1.below (Nat.le_refl _) b3)
    clear r3 d3 k3 n3 b3 B2
    go_wp2_with fail
    refine (product_ref _ _ z3 [2] _ (by omega) (by simp) ((unhide H3).1.below (Nat.le_refl _) (below_alloc _ _)) (arr_one _ _ _) (unhide H3).2.1 (dig_one 2 (by omega) (by omega))).mono ?_
    rintro e' w4 ⟨b4, v4, z4, rfl, r4, d4, k4, n4, l4, _⟩
    have b34 : Below w3.heap.size w3 w4 := (below_alloc _ _).trans (b4.mono (by simp))
    have B4 := below_next B3 b34
    have e4 : Dc.val z4 = 2 ^ (n + 1) := by rw [n4, (unhide H3).2.2.2, val_two, Int.pow_succ]
    have l4' : z4.length ≤ 40 := by simp at l4; omega
    have H4 := hide (And.intro r4 (And.intro d4 (And.intro k4 e4)))
    have A24 := hide ((unhide A2').below (Nat.le_refl _) b34)
    have A34 := hide ((unhide H3).1.below (Nat.le_refl _) b34)
    clear r4 d4 k4 n4 e4 b4 b34 B3 l4 A2'
    go_wp2_with fail
    refine (product_ref _ _ z2 [2] _ (by omega) (by simp) ((unhide A24).below (Nat.le_refl _) (below_alloc _ _)) (arr_one _ _ _) (unhide H2).2.1 (dig_one 2 (by omega) (by omega))).mono ?_
    rintro e' w5 ⟨b5, v5, z5, rfl, r5, d5, k5, n5, l5, _⟩
    have b45 : Below w4.heap.size w4 w5 := (below_alloc _ _).trans (b5.mono (by simp))
    have B5 := below_next B4 b45
    have e5 : Dc.val z5 = (m : Int) * 20000 := by rw [n5, (unhide H2).2.2.2, val_two]; omega
    have l5' : z5.length ≤ 40 := by simp at l5; omega
    have H5 := hide (And.intro r5 (And.intro d5 (And.intro k5 e5)))
    have A35 := hide ((unhide A34).below (Nat.le_refl _) b45)
    have A45 := hide ((unhide H4).1.below (Nat.le_refl _) b45)
    clear r5 d5 k5 n5 e5 b5 b45 B4 l5 A24 A34
    go_wp2_with fail
    refine (plus2_ref _ _ z5 z3 _ (by omega) (by omega) (unhide H5).1 (unhide A35) (unhide H5).2.1 (unhide H3).2.1).mono ?_
    rintro e' w6 ⟨b6, v6, z6, rfl, r6, d6, n6, l6⟩
    have B6 := below_next B5 b6
    have e6 : Dc.val z6 = (m : Int) * 20000 + 2 ^ n := by rw [n6, (unhide H5).2.2.2, (unhide H3).2.2.2]
    have l6' : z6.length ≤ 50 := by omega
    have H6 := hide (And.intro r6 (And.intro d6 e6))
    have A46 := hide ((unhide A45).below (Nat.le_refl _) b6)
    clear r6 d6 n6 e6 b6 B5 l6 A35 A45
    go_wp2_with fail
    refine (over_ref _ _ z6 z4 _ (by omega) (by omega) (unhide H6).1 (unhide A46) (unhide H6).2.1 (unhide H4).2.1 (unhide H4).2.2.1 (by rw [(unhide H4).2.2.2]; exact Int.pow_pos (by omega))).mono ?_
    rintro e' w7 ⟨b7, vq, vr, qs, rs, rfl, q1, q2, q3, q4, q5, q6, q7, q8, q9, q10, _⟩
    have B7 := below_next B6 b7
    have eq : Dc.val qs = (((m * 20000 + 2 ^ n) / 2 ^ (n + 1) : Nat) : Int) := by
      have hr0 := Dc.val_nonneg rs q5
      rw [(unhide H6).2.2, (unhide H4).2.2.2] at q7
      rw [(unhide H4).2.2.2] at q8
      have p2 : (0 : Int) < 2 ^ (n + 1) := Int.pow_pos (by omega)
      have hd : ((m : Int) * 20000 + 2 ^ n) / 2 ^ (n + 1) = Dc.val qs := by
        rw [q7, Int.add_comm, Int.add_mul_ediv_right _ _ (by omega), Int.ediv_eq_zero_of_lt hr0 q8, Int.zero_add]
      rw [← hd, Int.natCast_ediv, Int.natCast_add, Int.natCast_mul, Int.natCast_pow, Int.natCast_pow]
      rfl
    have lq : qs.length ≤ 50 := by omega
    have H7 := hide (And.intro q1 (And.intro q3 (And.intro q4 eq)))
    clear q1 q2 q3 q4 q5 q6 q7 q8 q9 q10 eq b7 B6
    go_wp2_with fail
    refine (number_ref _ qs s _ (by omega) (unhide H7).1 (unhide H7).2.1 (unhide H7).2.2.1).mono ?_
    rintro e' w8 ⟨rfl, b8⟩
    have B8 := below_next B7 b8
    simp only []
    rw [(unhide H7).2.2.2, ← (unhide R).1, ← (unhide R).2]
    clear b8 B7
    go_wp2
    go_ret2
    exact ⟨rfl, B8⟩
end Go.Proofs.Ytnlhgehibbgmoaa
