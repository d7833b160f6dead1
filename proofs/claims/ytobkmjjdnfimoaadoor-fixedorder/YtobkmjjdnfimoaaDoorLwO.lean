/- The walk of the law FixedOrder: it answers true. -/
import Derived.Test.YtobkmjjdnfimoaaDoorLwB
namespace Go.Proofs.YtobkmjjdnfimoaaDoor
open Go.RowKit

theorem okAdd_comm (a b : Int) : okAdd b a = okAdd a b := by
  unfold okAdd; rw [Int.add_comm b a, Bool.and_comm (goodB b)]
theorem add_comm (a b : Int) : addN b a = addN a b ∧ addE b a = addE a b := by
  unfold addN addE; rw [okAdd_comm, Int.add_comm b a]; exact ⟨rfl, rfl⟩
theorem sc_comm (n : Bool) (x y z : Nat) : scR n y x z = scR n x y z := by
  unfold scR nrV nrOk; rw [Nat.mul_comm y x]
theorem mul_comm (a b : Int) : mulR b a = mulR a b := by
  unfold mulR
  rw [Bool.and_comm, sc_comm, show (decide (b < 0) != decide (a < 0)) = (decide (a < 0) != decide (b < 0)) from bne_comm]
theorem mul_one (a : Int) (h : goodB a = true) : mulR a 10000 = (a, 0) := by
  have hg := (goodB_iff a).1 h
  unfold mulR
  have h2 : (goodB a && goodB 10000) = true := by rw [h]; decide
  rw [if_pos h2]
  have e : (10000 : Int).natAbs = 10000 := rfl
  have hd : a.natAbs * 10000 / 10000 = a.natAbs := Nat.mul_div_cancel _ (by omega)
  have hm : a.natAbs * 10000 % 10000 = 0 := Nat.mul_mod_left _ _
  have hk : nrOk a.natAbs 10000 10000 = true := by unfold nrOk; rw [hd]; exact decide_eq_true (by omega)
  have hv : nrV a.natAbs 10000 10000 = a.natAbs := by unfold nrV; rw [if_pos hk, hd, hm, if_neg (by omega)]; rfl
  have hs := sgn_small (decide (a < 0) != decide ((10000 : Int) < 0)) a.natAbs (by omega)
  unfold scR
  rw [e, if_pos hk, hv, hs.1, hs.2]
  by_cases hn : a < 0
  · have : (decide (a < 0) != decide ((10000 : Int) < 0)) = true := by simp [hn]
    rw [this, if_pos rfl]
    exact Prod.ext (by show -(a.natAbs : Int) = a; omega) rfl
  · have : (decide (a < 0) != decide ((10000 : Int) < 0)) = false := by rw [decide_eq_false hn]; rfl
    rw [this]
    exact Prod.ext (by show (a.natAbs : Int) = a; omega) rfl
theorem mul_one_bad (a : Int) (h : goodB a = false) : mulR a 10000 = (0, 5) := by
  unfold mulR; rw [h]; rfl

/-- To the nearest multiple. -/
theorem nr_facts (x z : Nat) (hz : 0 < z) (hx : x ≤ 9000000000000000000) :
    2 * (nrV x 1 z * z) ≤ 2 * x + z ∧ 2 * x ≤ 2 * (nrV x 1 z * z) + z := by
  have ho := (nr_one x z hz hx).1
  unfold nrV
  rw [if_pos ho, Nat.mul_one, Nat.add_mul]
  have h2 : x / z * z + x % z = x := Nat.div_add_mod' x z
  have h3 : x % z < z := Nat.mod_lt _ hz
  split
  · omega
  · omega
theorem nr_again (k z : Nat) (hz : 0 < z) (hx : k * z ≤ 9000000000000000000) : nrV (k * z) 1 z = k := by
  have ho := (nr_one (k * z) z hz hx).1
  unfold nrV
  rw [if_pos ho, Nat.mul_one, Nat.mul_div_cancel _ hz, Nat.mul_mod_left, if_neg (by omega)]
  rfl

/-- Rounded, and rounded again, where it is told. -/
theorem round_yes (a n : Int) (z : Nat) (hn0 : 0 ≤ n) (hn3 : n ≤ 3) (hz : 10 ^ (4 - n).toNat = z) (hg : goodB a = true) (hS : rndS a n ≤ 9000000000000000000) :
    ∃ p : Int, roundR a n = (p, 0) ∧ roundR p n = (p, 0) ∧ p.tmod (z : Int) = 0 ∧ 2 * (p - a) ≤ (z : Int) ∧ 2 * (a - p) ≤ (z : Int) ∧ -9000000000000000000 ≤ p ∧ p ≤ 9000000000000000000 := by
  have hgg := (goodB_iff a).1 hg
  have hz0 : 0 < z := by rw [← hz]; exact Nat.pow_pos (by omega)
  have hf := nr_facts a.natAbs z hz0 (by omega)
  have hSe : rndS a n = nrV a.natAbs 1 z * z := by unfold rndS; rw [hz]
  rw [hSe] at hS
  have hag := nr_again (nrV a.natAbs 1 z) z hz0 hS
  have hs := sgn_small (decide (a < 0)) (rndS a n) (by rw [hSe]; exact hS)
  refine ⟨sgnN (decide (a < 0)) (rndS a n : Nat), ?_, ?_, ?_, ?_, ?_, ?_, ?_⟩
  · unfold roundR
    rw [if_pos hg, if_neg (by omega), if_neg (by omega), hs.2]
  · have hna : (sgnN (decide (a < 0)) (rndS a n : Nat)).natAbs = rndS a n := by
      rw [hs.1]; split
      · rw [Int.natAbs_neg]; rfl
      · rfl
    have hgp : goodB (sgnN (decide (a < 0)) (rndS a n : Nat)) = true := by
      rw [goodB_iff]; rw [← hSe] at hS; omega
    have hr2 : rndS (sgnN (decide (a < 0)) (rndS a n : Nat)) n = rndS a n := by
      have : rndS (sgnN (decide (a < 0)) (rndS a n : Nat)) n = nrV (sgnN (decide (a < 0)) (rndS a n : Nat)).natAbs 1 z * z := by unfold rndS; rw [hz]
      rw [this, hna, hSe, hag]
    unfold roundR
    rw [if_pos hgp, if_neg (by omega), if_neg (by omega), hr2, hs.2]
    refine Prod.ext ?_ rfl
    show sgnN _ _ = sgnN _ _
    rw [(sgn_small _ (rndS a n) (by rw [hSe]; exact hS)).1, hs.1]
    by_cases hn : a < 0
    · rw [decide_eq_true hn, if_pos rfl]
      by_cases h0 : rndS a n = 0
      · rw [h0]; rfl
      · rw [decide_eq_true (by omega), if_pos rfl]
    · rw [decide_eq_false hn]
      have e : (if false = true then -((rndS a n : Nat) : Int) else ((rndS a n : Nat) : Int)) = ((rndS a n : Nat) : Int) := rfl
      rw [e, decide_eq_false (by omega)]
      rfl
  · have hd : (z : Int) ∣ sgnN (decide (a < 0)) (rndS a n : Nat) := by
      rw [hs.1, hSe]
      have : (z : Int) ∣ ((nrV a.natAbs 1 z * z : Nat) : Int) := by rw [Int.natCast_mul]; exact Int.dvd_mul_left _ _
      split
      · exact Int.dvd_neg.2 this
      · exact this
    exact Int.tmod_eq_zero_of_dvd hd
  · rw [hs.1]; rw [← hSe] at hf
    by_cases hn : a < 0
    · rw [decide_eq_true hn, if_pos rfl]; omega
    · rw [decide_eq_false hn, if_neg (by decide)]; omega
  · rw [hs.1]; rw [← hSe] at hf
    by_cases hn : a < 0
    · rw [decide_eq_true hn, if_pos rfl]; omega
    · rw [decide_eq_false hn, if_neg (by decide)]; omega
  · rw [hs.1]; rw [← hSe] at hS
    split <;> omega
  · rw [hs.1]; rw [← hSe] at hS
    split <;> omega
theorem round_no (a n : Int) (hn0 : 0 ≤ n) (hn3 : n ≤ 3) (hg : goodB a = true) (hS : 9000000000000000000 < rndS a n) : roundR a n = (0, 5) := by
  unfold roundR sgnN sgnE
  have h' : (9000000000000000000 : Int) < ((rndS a n : Nat) : Int) := by omega
  rw [if_pos hg, if_neg (by omega), if_neg (by omega), if_pos h', if_pos h']
theorem round_bad (a n : Int) (hg : goodB a = false) : roundR a n = (0, 5) := by
  unfold roundR; rw [hg]; rfl

set_option maxRecDepth 100000 in
set_option maxHeartbeats 4000000 in
theorem order_bad (a b c : Int) (w : World) (he : Env w) (hg : goodB a = false) (hc0 : 0 ≤ c) (hc1 : c ≤ 255) :
    Calls Tryd.prog 8 #[.int .i64 a, .int .i64 b, .int .u8 c] w fun e w' => e = .returned (.bool true) ∧ Below w.heap.size w w' := by
  have HE := hide he
  have HAC := hide (add_comm a b)
  have HMC := hide (mul_comm a b)
  have HM1 := hide (mul_one_bad a hg)
  have HR := hide (round_bad a (c % 4) hg)
  clear he hg
  go_enter Tryd.func8, Tryd.ntmps8
  go_wp2_with fail
  refine (add_any a b _).mono ?_
  rintro e w1 ⟨rfl, b1⟩
  go_wp2_with fail
  refine (add_any b a _).mono ?_
  rintro e w2 ⟨rfl, b2⟩
  have b12 := below_then b1 b2
  rw [(unhide HAC).1, (unhide HAC).2]
  go_wp2_with fail
  refine (mul_any a b _).mono ?_
  rintro e w3 ⟨rfl, b3⟩
  have b13 := below_then b12 b3
  go_wp2_with fail
  refine (mul_any b a _).mono ?_
  rintro e w4 ⟨rfl, b4⟩
  have b14 := below_then b13 b4
  rw [unhide HMC]
  go_wp2_with fail
  refine (mul_any a 10000 _).mono ?_
  rintro e w5 ⟨rfl, b5⟩
  have b15 := below_then b14 b5
  rw [unhide HM1]
  generalize addN a b = sn at *
  generalize addE a b = se at *
  generalize (mulR a b).1 = un at *
  generalize (mulR a b).2 = ue at *
  go_wp2_with fail
  refine (wakes_any _ ((unhide HE).below b15)).mono ?_
  rintro e w6 ⟨rfl, b6⟩
  have b16 := below_then b15 b6
  go_wp2_with fail
  refine (round_any a _ _).mono ?_
  rintro e w7 ⟨rfl, b7⟩
  rw [unhide HR]
  go_wp2
  go_ret
  exact ⟨rfl, below_then b16 b7⟩

set_option maxRecDepth 100000 in
set_option maxHeartbeats 4000000 in
theorem order_far (a b c : Int) (w : World) (he : Env w) (hg : goodB a = true) (hc0 : 0 ≤ c) (hc1 : c ≤ 255) (hS : 9000000000000000000 < rndS a (c % 4)) :
    Calls Tryd.prog 8 #[.int .i64 a, .int .i64 b, .int .u8 c] w fun e w' => e = .returned (.bool true) ∧ Below w.heap.size w w' := by
  have HE := hide he
  have HAC := hide (add_comm a b)
  have HMC := hide (mul_comm a b)
  have HM1 := hide (mul_one a hg)
  have HR := hide (round_no a (c % 4) (by omega) (by omega) hg hS)
  clear he hg hS
  go_enter Tryd.func8, Tryd.ntmps8
  go_wp2_with fail
  refine (add_any a b _).mono ?_
  rintro e w1 ⟨rfl, b1⟩
  go_wp2_with fail
  refine (add_any b a _).mono ?_
  rintro e w2 ⟨rfl, b2⟩
  have b12 := below_then b1 b2
  rw [(unhide HAC).1, (unhide HAC).2]
  go_wp2_with fail
  refine (mul_any a b _).mono ?_
  rintro e w3 ⟨rfl, b3⟩
  have b13 := below_then b12 b3
  go_wp2_with fail
  refine (mul_any b a _).mono ?_
  rintro e w4 ⟨rfl, b4⟩
  have b14 := below_then b13 b4
  rw [unhide HMC]
  go_wp2_with fail
  refine (mul_any a 10000 _).mono ?_
  rintro e w5 ⟨rfl, b5⟩
  have b15 := below_then b14 b5
  rw [unhide HM1]
  generalize addN a b = sn at *
  generalize addE a b = se at *
  generalize (mulR a b).1 = un at *
  generalize (mulR a b).2 = ue at *
  go_wp2_with fail
  refine (wakes_any _ ((unhide HE).below b15)).mono ?_
  rintro e w6 ⟨rfl, b6⟩
  have b16 := below_then b15 b6
  go_wp2_with fail
  refine (round_any a _ _).mono ?_
  rintro e w7 ⟨rfl, b7⟩
  rw [unhide HR]
  go_wp2
  go_ret
  exact ⟨rfl, below_then b16 b7⟩

set_option maxRecDepth 100000 in
set_option maxHeartbeats 8000000 in
theorem order_near (a b c : Int) (w : World) (he : Env w) (hg : goodB a = true) (hc0 : 0 ≤ c) (hc1 : c ≤ 255) (hS : rndS a (c % 4) ≤ 9000000000000000000) :
    Calls Tryd.prog 8 #[.int .i64 a, .int .i64 b, .int .u8 c] w fun e w' => e = .returned (.bool true) ∧ Below w.heap.size w w' := by
  have HE := hide he
  have HAC := hide (add_comm a b)
  have HMC := hide (mul_comm a b)
  have HM1 := hide (mul_one a hg)
  obtain ⟨g1, g2⟩ := (goodB_iff a).1 hg
  have HG := hide hg
  have HS := hide hS
  clear he hg hS
  go_enter Tryd.func8, Tryd.ntmps8
  go_wp2_with fail
  refine (add_any a b _).mono ?_
  rintro e w1 ⟨rfl, b1⟩
  go_wp2_with fail
  refine (add_any b a _).mono ?_
  rintro e w2 ⟨rfl, b2⟩
  have b12 := below_then b1 b2
  rw [(unhide HAC).1, (unhide HAC).2]
  go_wp2_with fail
  refine (mul_any a b _).mono ?_
  rintro e w3 ⟨rfl, b3⟩
  have b13 := below_then b12 b3
  go_wp2_with fail
  refine (mul_any b a _).mono ?_
  rintro e w4 ⟨rfl, b4⟩
  have b14 := below_then b13 b4
  rw [unhide HMC]
  go_wp2_with fail
  refine (mul_any a 10000 _).mono ?_
  rintro e w5 ⟨rfl, b5⟩
  have b15 := below_then b14 b5
  rw [unhide HM1]
  generalize addN a b = sn at *
  generalize addE a b = se at *
  generalize (mulR a b).1 = un at *
  generalize (mulR a b).2 = ue at *
  go_wp2_with fail
  refine (wakes_any _ ((unhide HE).below b15)).mono ?_
  rintro e w6 ⟨rfl, b6⟩
  have b16 := below_then b15 b6
  go_wp2_with fail
  refine (round_any a _ _).mono ?_
  rintro e w7 ⟨rfl, b7⟩
  have b17 := below_then b16 b7
  have hc4 : c % 4 = 0 ∨ c % 4 = 1 ∨ c % 4 = 2 ∨ c % 4 = 3 := by omega
  rcases hc4 with h4 | h4 | h4 | h4
  · obtain ⟨p, r1, r2, r3, r4, r5, r6, r7⟩ := round_yes a (c % 4) 10000 (by omega) (by omega) (by rw [h4]; rfl) (unhide HG) (unhide HS)
    have R2 : Hid (roundR p 0 = (p, 0)) := hide (by rw [h4] at r2; exact r2)
    have r3' : (p.tmod 10000 == 0) = true := by rw [beq_iff_eq]; exact r3
    have R3 := hide r3
    rw [r1]
    clear r1 r2 r3
    obtain ⟨d1, d2⟩ : p - a ≤ 5000 ∧ a - p ≤ 5000 := by omega
    go_wp2_with fail
    refine (round_any p 0 _).mono ?_
    rintro e w8 ⟨rfl, b8⟩
    rw [unhide R2]
    have b18 := below_then b17 b8
    go_wp2
    go_ret
    exact ⟨rfl, b18.trans ((below_alloc _ _).mono b18.size)⟩
  · obtain ⟨p, r1, r2, r3, r4, r5, r6, r7⟩ := round_yes a (c % 4) 1000 (by omega) (by omega) (by rw [h4]; rfl) (unhide HG) (unhide HS)
    have R2 : Hid (roundR p 1 = (p, 0)) := hide (by rw [h4] at r2; exact r2)
    have r3' : (p.tmod 1000 == 0) = true := by rw [beq_iff_eq]; exact r3
    have R3 := hide r3
    rw [r1]
    clear r1 r2 r3
    obtain ⟨d1, d2⟩ : p - a ≤ 500 ∧ a - p ≤ 500 := by omega
    go_wp2_with fail
    refine (round_any p 1 _).mono ?_
    rintro e w8 ⟨rfl, b8⟩
    rw [unhide R2]
    have b18 := below_then b17 b8
    go_wp2
    go_ret
    exact ⟨rfl, b18.trans ((below_alloc _ _).mono b18.size)⟩
  · obtain ⟨p, r1, r2, r3, r4, r5, r6, r7⟩ := round_yes a (c % 4) 100 (by omega) (by omega) (by rw [h4]; rfl) (unhide HG) (unhide HS)
    have R2 : Hid (roundR p 2 = (p, 0)) := hide (by rw [h4] at r2; exact r2)
    have r3' : (p.tmod 100 == 0) = true := by rw [beq_iff_eq]; exact r3
    have R3 := hide r3
    rw [r1]
    clear r1 r2 r3
    obtain ⟨d1, d2⟩ : p - a ≤ 50 ∧ a - p ≤ 50 := by omega
    go_wp2_with fail
    refine (round_any p 2 _).mono ?_
    rintro e w8 ⟨rfl, b8⟩
    rw [unhide R2]
    have b18 := below_then b17 b8
    go_wp2
    go_ret
    exact ⟨rfl, b18.trans ((below_alloc _ _).mono b18.size)⟩
  · obtain ⟨p, r1, r2, r3, r4, r5, r6, r7⟩ := round_yes a (c % 4) 10 (by omega) (by omega) (by rw [h4]; rfl) (unhide HG) (unhide HS)
    have R2 : Hid (roundR p 3 = (p, 0)) := hide (by rw [h4] at r2; exact r2)
    have r3' : (p.tmod 10 == 0) = true := by rw [beq_iff_eq]; exact r3
    have R3 := hide r3
    rw [r1]
    clear r1 r2 r3
    obtain ⟨d1, d2⟩ : p - a ≤ 5 ∧ a - p ≤ 5 := by omega
    go_wp2_with fail
    refine (round_any p 3 _).mono ?_
    rintro e w8 ⟨rfl, b8⟩
    rw [unhide R2]
    have b18 := below_then b17 b8
    go_wp2
    go_ret
    exact ⟨rfl, b18.trans ((below_alloc _ _).mono b18.size)⟩

theorem order_any (a b c : Int) (w : World) (he : Env w) (hc0 : 0 ≤ c) (hc1 : c ≤ 255) :
    Calls Tryd.prog 8 #[.int .i64 a, .int .i64 b, .int .u8 c] w fun e w' => e = .returned (.bool true) ∧ Below w.heap.size w w' := by
  cases hg : goodB a
  · exact order_bad a b c w he hg hc0 hc1
  · rcases Nat.lt_or_ge 9000000000000000000 (rndS a (c % 4)) with h | h
    · exact order_far a b c w he hg hc0 hc1 h
    · exact order_near a b c w he hg hc0 hc1 h
end Go.Proofs.YtobkmjjdnfimoaaDoor
