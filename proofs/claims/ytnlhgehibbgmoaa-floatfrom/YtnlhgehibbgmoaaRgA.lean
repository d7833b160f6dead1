/- The contracts of the reference's Class, Parts and Order, by a float64's bits. -/
import Derived.Test.YtnlhgehibbgmoaaFlO
namespace Go.Proofs.Ytnlhgehibbgmoaa
open Go.RowKit

theorem word_split (b : Nat) (hb : b < 18446744073709551616) : (b : Int) % 9223372036854775808 = (Fl.rng b : Int) ∧ (b : Int) / 9223372036854775808 = (if Fl.sgn b = true then 1 else 0) ∧ Fl.rng b < 9223372036854775808 := by
  refine ⟨by unfold Fl.rng; omega, ?_, by unfold Fl.rng; omega⟩
  unfold Fl.sgn
  by_cases h : b < 9223372036854775808
  · rw [Nat.div_eq_of_lt h]; simp; omega
  · rw [show b / 9223372036854775808 = 1 by omega]; simp; omega

set_option maxHeartbeats 1000000 in
theorem class_ref (b : Nat) (w : World) (hb : b < 18446744073709551616) :
    Calls Try.prog 15 #[.int .u64 (b : Int)] w fun e w' => e = .returned (.int .i64 (clsV b)) ∧ w' = w := by
  obtain ⟨e1, e2, e3⟩ := word_split b hb
  unfold clsV
  generalize Fl.rng b = r at *
  have hb1 : (b : Int) < 18446744073709551616 := by omega
  have hb0 : 0 ≤ (b : Int) := by omega
  generalize (b : Int) = bi at *
  by_cases h1 : 9218868437227405312 < r
  · rw [if_pos h1]
    have h1' : 9218868437227405312 < (r : Int) := by omega
    generalize (r : Int) = ri at *
    clear h1 e3 hb e2
    go_enter Try.func15, Try.ntmps15
    go_wp2
    go_ret
    exact ⟨rfl, rfl⟩
  · rw [if_neg h1]
    have d1 : ¬ 9218868437227405312 < (r : Int) := by omega
    by_cases h2 : r = 9218868437227405312
    · rw [if_pos h2]
      have hr : (r : Int) = 9218868437227405312 := by omega
      rw [hr] at e1
      clear hr d1 h1 h2 e3 hb
      cases hs : Fl.sgn b
      · rw [hs] at e2
        clear hs
        simp only [Bool.false_eq_true, if_false] at e2
        go_enter Try.func15, Try.ntmps15
        go_wp2
        go_ret
        exact ⟨rfl, rfl⟩
      · rw [hs] at e2
        clear hs
        simp only [if_true] at e2
        go_enter Try.func15, Try.ntmps15
        go_wp2
        go_ret
        exact ⟨rfl, rfl⟩
    · rw [if_neg h2]
      have d2 : ((r : Int) == 9218868437227405312) = false := by rw [beq_eq_false_iff_ne]; omega
      by_cases h3 : r = 0
      · rw [if_pos h3]
        have hr : (r : Int) = 0 := by omega
        rw [hr] at e1
        clear hr d1 d2 h1 h2 h3 e3 hb
        cases hs : Fl.sgn b
        · rw [hs] at e2
          clear hs
          simp only [Bool.false_eq_true, if_false] at e2
          go_enter Try.func15, Try.ntmps15
          go_wp2
          go_ret
          exact ⟨rfl, rfl⟩
        · rw [hs] at e2
          clear hs
          simp only [if_true] at e2
          go_enter Try.func15, Try.ntmps15
          go_wp2
          go_ret
          exact ⟨rfl, rfl⟩
      · rw [if_neg h3]
        have d3 : ((r : Int) == 0) = false := by rw [beq_eq_false_iff_ne]; omega
        generalize (r : Int) = ri at *
        clear h1 h2 h3 e3 hb
        cases hs : Fl.sgn b
        · rw [hs] at e2
          clear hs
          simp only [Bool.false_eq_true, if_false] at e2
          go_enter Try.func15, Try.ntmps15
          go_wp2
          go_ret
          exact ⟨rfl, rfl⟩
        · rw [hs] at e2
          clear hs
          simp only [if_true] at e2
          go_enter Try.func15, Try.ntmps15
          go_wp2
          go_ret
          exact ⟨rfl, rfl⟩

theorem ret3b {k k' : IntKind} {s t : Bool} {a b c d : Int} (h0 : s = t) (h : a = b) (h' : c = d) : Ending.returned (.tuple #[.bool s, .int k a, .int k' c]) = .returned (.tuple #[.bool t, .int k b, .int k' d]) := by rw [h0, h, h']
theorem sign_eq (b : Nat) (bi : Int) (e2 : bi / 9223372036854775808 = (if Fl.sgn b = true then 1 else 0)) : (bi / 9223372036854775808 == 1) = Fl.sgn b := by
  rw [e2]; cases Fl.sgn b <;> rfl

set_option maxHeartbeats 1000000 in
theorem parts_ref (b : Nat) (w : World) (hb : b < 18446744073709551616) :
    Calls Try.prog 12 #[.int .u64 (b : Int)] w fun e w' => e = .returned (.tuple #[.bool (Fl.sgn b), .int .u64 (if 9218868437227405312 ≤ Fl.rng b then 0 else (Fl.mm (Fl.rng b) : Int)), .int .i64 (if 9218868437227405312 ≤ Fl.rng b then 0 else (Fl.mk (Fl.rng b) : Int) - 1074)]) ∧ w' = w := by
  obtain ⟨e1, e2, e3⟩ := word_split b hb
  have es := sign_eq b _ e2
  generalize Fl.rng b = r at *
  have hb1 : (b : Int) < 18446744073709551616 := by omega
  have hb0 : 0 ≤ (b : Int) := by omega
  generalize (b : Int) = bi at *
  clear e2 hb
  have f1 : (r : Int) / 4503599627370496 = ((r / 4503599627370496 : Nat) : Int) := by omega
  have f2 : (r : Int) % 4503599627370496 = ((r % 4503599627370496 : Nat) : Int) := by omega
  obtain ⟨e, he⟩ : ∃ e, r / 4503599627370496 = e := ⟨_, rfl⟩
  obtain ⟨m, hm⟩ : ∃ m, r % 4503599627370496 = m := ⟨_, rfl⟩
  have hel : e ≤ 2047 := by omega
  have hml : m < 4503599627370496 := by omega
  rw [he] at f1
  rw [hm] at f2
  obtain ⟨ri, hri⟩ : ∃ ri : Int, (r : Int) = ri := ⟨_, rfl⟩
  rw [hri] at e1 f1 f2
  have hr0 : 0 ≤ ri := by omega
  have hr1 : ri < 9223372036854775808 := by omega
  by_cases h1 : 9218868437227405312 ≤ r
  · rw [if_pos h1, if_pos h1]
    have e7 : e = 2047 := by omega
    rw [show (e : Int) = 2047 by omega] at f1
    clear h1 he hm hel hml hri e7 e3
    go_enter Try.func12, Try.ntmps12
    go_wp2
    go_ret3
    exact ⟨rfl, rfl⟩
  · rw [if_neg h1, if_neg h1]
    by_cases h2 : r < 4503599627370496
    · have e0 : e = 0 := by omega
      have hmm : Fl.mm r = m := by unfold Fl.mm; rw [if_pos h2]; omega
      have hmk : Fl.mk r = 0 := by unfold Fl.mk; omega
      rw [hmm, hmk]
      rw [show (e : Int) = 0 by omega] at f1
      clear h1 he hm hel hml hri e0 e3 h2 hmm hmk
      go_enter Try.func12, Try.ntmps12
      go_wp2
      go_ret3
      exact ⟨ret3b rfl f2 rfl, rfl⟩
    · have hmm : Fl.mm r = m + 4503599627370496 := by unfold Fl.mm; rw [if_neg h2]; omega
      have hmk : (Fl.mk r : Int) - 1074 = (e : Int) - 1075 := by unfold Fl.mk; omega
      rw [hmm, hmk]
      have d7 : ((e : Int) == 2047) = false := by rw [beq_eq_false_iff_ne]; omega
      have d0 : ((e : Int) == 0) = false := by rw [beq_eq_false_iff_ne]; omega
      have hel' : (e : Int) ≤ 2047 := by omega
      have he0 : 0 ≤ (e : Int) := by omega
      have hm' : (m : Int) < 4503599627370496 := by omega
      have hm0 : 0 ≤ (m : Int) := by omega
      have hc : ((m + 4503599627370496 : Nat) : Int) = (m : Int) + 4503599627370496 := by omega
      rw [hc]
      generalize (e : Int) = ei at *
      generalize (m : Int) = mi at *
      clear h1 hri e3 h2 hmm hmk hc
      go_enter Try.func12, Try.ntmps12
      go_wp2
      go_ret3
      exact ⟨rfl, rfl⟩

theorem sig_flip (a b c d : Int) (h1 : a < b ↔ c < d) (h2 : b < a ↔ d < c) : sig a b = sig c d := by
  unfold sig; simp only [h1, h2]
theorem cls_table (x : Nat) (hx : x < 18446744073709551616) (h : Fl.rng x ≤ 9218868437227405312) :
    (clsV x = 6 ∧ x = 9218868437227405312) ∨ (clsV x = 1 ∧ x = 18442240474082181120) ∨ (clsV x = 4 ∧ x = 0) ∨ (clsV x = 3 ∧ x = 9223372036854775808) ∨ (clsV x = 5 ∧ Fl.kv x = (x : Int)) ∨ (clsV x = 2 ∧ Fl.kv x = 9223372036854775808 - (x : Int)) := by
  have wx := word_eq x hx
  unfold clsV
  rw [if_neg (by omega)]
  cases s : Fl.sgn x
  · rw [s] at wx
    simp only [Bool.false_eq_true, if_false] at wx ⊢
    by_cases a : Fl.rng x = 9218868437227405312
    · rw [if_pos a]; exact Or.inl ⟨rfl, by omega⟩
    · rw [if_neg a]
      by_cases b : Fl.rng x = 0
      · rw [if_pos b]; exact Or.inr (Or.inr (Or.inl ⟨rfl, by omega⟩))
      · rw [if_neg b]; exact Or.inr (Or.inr (Or.inr (Or.inr (Or.inl ⟨rfl, by rw [kv_pos s]; omega⟩))))
  · rw [s] at wx
    simp only [if_true] at wx ⊢
    by_cases a : Fl.rng x = 9218868437227405312
    · rw [if_pos a]; exact Or.inr (Or.inl ⟨rfl, by omega⟩)
    · rw [if_neg a]
      by_cases b : Fl.rng x = 0
      · rw [if_pos b]; exact Or.inr (Or.inr (Or.inr (Or.inl ⟨rfl, by omega⟩)))
      · rw [if_neg b]; exact Or.inr (Or.inr (Or.inr (Or.inr (Or.inr ⟨rfl, by rw [kv_neg s]; omega⟩))))
/-- How two words of one class stand, as the reference tells. -/
theorem orF_same (x y : Nat) (hx : x < 18446744073709551616) (hy : y < 18446744073709551616) (hr : rkV (clsV x) = rkV (clsV y)) :
    orF x y = if x = y ∨ rkV (clsV x) = 7 then 0 else if ((decide (x < y)) == (rkV (clsV x) == 5)) = true then -1 else 1 := by
  have r7x := rk_seven x
  have r7y := rk_seven y
  unfold orF
  rw [if_pos hr]
  by_cases h7 : 9218868437227405312 < Fl.rng x
  · rw [if_pos h7, if_pos (Or.inr (r7x.2 h7))]
  · have h7y : ¬ 9218868437227405312 < Fl.rng y := fun h => h7 (r7x.1 (hr.trans (r7y.2 h)))
    have n7 : rkV (clsV x) ≠ 7 := fun h => h7 (r7x.1 h)
    rw [if_neg h7]
    by_cases hxy : x = y
    · subst hxy
      rw [if_pos (Or.inl rfl)]
      unfold sig; rw [if_neg (by omega), if_neg (by omega)]
    · rw [if_neg (by intro h; rcases h with h | h; exact hxy h; exact n7 h)]
      have tx := cls_table x hx (by omega)
      have ty := cls_table y hy (by omega)
      rcases tx with ⟨c1, v1⟩ | ⟨c1, v1⟩ | ⟨c1, v1⟩ | ⟨c1, v1⟩ | ⟨c1, v1⟩ | ⟨c1, v1⟩ <;> rcases ty with ⟨c2, v2⟩ | ⟨c2, v2⟩ | ⟨c2, v2⟩ | ⟨c2, v2⟩ | ⟨c2, v2⟩ | ⟨c2, v2⟩ <;> rw [c1, c2] at hr <;> first | (exact absurd hr (by decide)) | (exfalso; omega) | skip
      · rw [c1, v1, v2]
        unfold sig
        by_cases hl : x < y
        · rw [if_pos (by omega), decide_eq_true hl]; rfl
        · rw [if_neg (by omega), if_pos (by omega), decide_eq_false hl]; rfl
      · rw [c1, v1, v2]
        unfold sig
        by_cases hl : x < y
        · rw [if_neg (by omega), if_pos (by omega), decide_eq_true hl]; rfl
        · rw [if_pos (by omega), decide_eq_false hl]; rfl
end Go.Proofs.Ytnlhgehibbgmoaa
