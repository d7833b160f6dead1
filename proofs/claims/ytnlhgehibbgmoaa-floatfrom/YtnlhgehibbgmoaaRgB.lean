/- The contract of the reference's Order. -/
import Derived.Test.YtnlhgehibbgmoaaRgA
namespace Go.Proofs.Ytnlhgehibbgmoaa
open Go.RowKit

theorem cls_range (x : Nat) : 0 ≤ clsV x ∧ clsV x ≤ 6 := by
  unfold clsV
  split
  · decide
  · split
    · split <;> decide
    · split
      · split <;> decide
      · split <;> decide
theorem orF_rank (x y : Nat) (h : rkV (clsV x) ≠ rkV (clsV y)) : orF x y = sig (rkV (clsV x)) (rkV (clsV y)) := by unfold orF; rw [if_neg h]
theorem sig_lt {a b : Int} (h : a < b) : sig a b = -1 := by unfold sig; rw [if_pos h]
theorem sig_gt {a b : Int} (h : b < a) : sig a b = 1 := by unfold sig; rw [if_neg (by omega), if_pos h]
theorem rk_ne {k : Int} (h : k ≠ 0) : rkV k = k := by unfold rkV; rw [if_neg h]
theorem rk_zero : rkV 0 = 7 := rfl

set_option maxHeartbeats 2000000 in
theorem order_ref (x y : Nat) (w : World) (hx : x < 18446744073709551616) (hy : y < 18446744073709551616) :
    Calls Try.prog 22 #[.int .u64 (x : Int), .int .u64 (y : Int)] w fun e w' => e = .returned (.int .i64 (orF x y)) ∧ w' = w := by
  obtain ⟨o, ho⟩ : ∃ o, orF x y = o := ⟨_, rfl⟩
  rw [ho]
  have rx := cls_range x
  have ry := cls_range y
  obtain ⟨k, hk⟩ : ∃ k, clsV x = k := ⟨_, rfl⟩
  obtain ⟨l, hl⟩ : ∃ l, clsV y = l := ⟨_, rfl⟩
  have H := hide (And.intro hx (And.intro hy (And.intro hk (And.intro hl ho))))
  rw [hk] at rx
  rw [hl] at ry
  clear hk hl ho hx hy
  go_enter Try.func22, Try.ntmps22
  go_wp2_with fail
  refine (class_ref x _ (unhide H).1).mono ?_
  rintro e w1 ⟨rfl, rfl⟩
  rw [(unhide H).2.2.1]
  go_wp2_with fail
  refine (class_ref y _ (unhide H).2.1).mono ?_
  rintro e w1 ⟨rfl, rfl⟩
  rw [(unhide H).2.2.2.1]
  by_cases k0 : k = 0 <;> by_cases l0 : l = 0
  · subst k0 l0
    have E : Hid (o = 0) := hide (by
      obtain ⟨h1, h2, h3, h4, h5⟩ := unhide H
      rw [← h5, orF_same x y h1 h2 (by rw [h3, h4]), if_pos (Or.inr (by rw [h3]; rfl))])
    cases hxy : ((x : Int) == (y : Int))
    · go_wp2
      go_ret
      exact ⟨ret_int (unhide E).symm, rfl⟩
    · go_wp2
      go_ret
      exact ⟨ret_int (unhide E).symm, rfl⟩
  · subst k0
    have lb : (l == 0) = false := by rw [beq_eq_false_iff_ne]; exact l0
    have L0 := hide l0
    have t1 : ¬ (7 : Int) < l := by omega
    have t2 : l < 7 := by omega
    clear l0
    go_wp2
    go_ret
    refine ⟨ret_int ?_, rfl⟩
    obtain ⟨h1, h2, h3, h4, h5⟩ := unhide H
    have e1 : rkV (clsV x) = 7 := by rw [h3]; rfl
    have e2 : rkV (clsV y) = l := by rw [h4]; exact rk_ne (unhide L0)
    rw [← h5, orF_rank x y (by rw [e1, e2]; omega), e1, e2, sig_gt t2]
  · subst l0
    have kb : (k == 0) = false := by rw [beq_eq_false_iff_ne]; exact k0
    have K0 := hide k0
    have t1 : k < 7 := by omega
    clear k0
    go_wp2
    go_ret
    refine ⟨ret_int ?_, rfl⟩
    obtain ⟨h1, h2, h3, h4, h5⟩ := unhide H
    have e1 : rkV (clsV x) = k := by rw [h3]; exact rk_ne (unhide K0)
    have e2 : rkV (clsV y) = 7 := by rw [h4]; rfl
    rw [← h5, orF_rank x y (by rw [e1, e2]; omega), e1, e2, sig_lt t1]
  · have kb : (k == 0) = false := by rw [beq_eq_false_iff_ne]; exact k0
    have lb : (l == 0) = false := by rw [beq_eq_false_iff_ne]; exact l0
    have K0 := hide (And.intro k0 l0)
    clear k0 l0
    rcases Int.lt_trichotomy k l with hc | hc | hc
    · go_wp2
      go_ret
      refine ⟨ret_int ?_, rfl⟩
      obtain ⟨h1, h2, h3, h4, h5⟩ := unhide H
      have e1 : rkV (clsV x) = k := by rw [h3]; exact rk_ne (unhide K0).1
      have e2 : rkV (clsV y) = l := by rw [h4]; exact rk_ne (unhide K0).2
      rw [← h5, orF_rank x y (by rw [e1, e2]; omega), e1, e2, sig_lt hc]
    · subst hc
      have kb7 : (k == 7) = false := by rw [beq_eq_false_iff_ne]; omega
      have E : Hid (o = if x = y then 0 else if (decide ((x : Int) < (y : Int)) == (k == 5)) = true then -1 else 1) := hide (by
        obtain ⟨h1, h2, h3, h4, h5⟩ := unhide H
        have e1 : rkV (clsV x) = k := by rw [h3]; exact rk_ne (unhide K0).1
        have e2 : rkV (clsV y) = k := by rw [h4]; exact rk_ne (unhide K0).2
        rw [← h5, orF_same x y h1 h2 (by rw [e1, e2]), e1]
        by_cases hxy : x = y
        · rw [if_pos (Or.inl hxy), if_pos hxy]
        · rw [if_neg (by intro h; rcases h with h | h; exact hxy h; omega), if_neg hxy, show decide ((x : Int) < (y : Int)) = decide (x < y) from decide_eq_decide.2 (by omega)])
      by_cases hxy : x = y
      · have E2 : Hid (o = 0) := hide (by rw [unhide E, if_pos hxy])
        have xb : ((x : Int) == (y : Int)) = true := by rw [beq_iff_eq]; omega
        have HXY := hide hxy
        clear hxy E
        go_wp2
        go_ret
        exact ⟨ret_int (unhide E2).symm, rfl⟩
      · have xb : ((x : Int) == (y : Int)) = false := by rw [beq_eq_false_iff_ne]; omega
        have E2 : Hid (o = if (decide ((x : Int) < (y : Int)) == (k == 5)) = true then -1 else 1) := hide (by rw [unhide E, if_neg hxy])
        have HXY := hide hxy
        clear hxy E
        cases hd1 : decide ((x : Int) < (y : Int)) <;> cases hd2 : (k == 5)
        · have E3 : Hid (o = -1) := hide (by rw [unhide E2, hd1, hd2]; rfl)
          rw [decide_eq_false_iff_not] at hd1
          have hdn : decide (x < y) = false := decide_eq_false (by omega)
          clear E2
          go_wp2
          go_ret
          exact ⟨ret_int (unhide E3).symm, rfl⟩
        · have E3 : Hid (o = 1) := hide (by rw [unhide E2, hd1, hd2]; rfl)
          rw [decide_eq_false_iff_not] at hd1
          have hdn : decide (x < y) = false := decide_eq_false (by omega)
          clear E2
          go_wp2
          go_ret
          exact ⟨ret_int (unhide E3).symm, rfl⟩
        · have E3 : Hid (o = 1) := hide (by rw [unhide E2, hd1, hd2]; rfl)
          rw [decide_eq_true_iff] at hd1
          have hdn : decide (x < y) = true := decide_eq_true (by omega)
          clear E2
          go_wp2
          go_ret
          exact ⟨ret_int (unhide E3).symm, rfl⟩
        · have E3 : Hid (o = -1) := hide (by rw [unhide E2, hd1, hd2]; rfl)
          rw [decide_eq_true_iff] at hd1
          have hdn : decide (x < y) = true := decide_eq_true (by omega)
          clear E2
          go_wp2
          go_ret
          exact ⟨ret_int (unhide E3).symm, rfl⟩
    · have hc' : ¬ k < l := by omega
      go_wp2
      go_ret
      refine ⟨ret_int ?_, rfl⟩
      obtain ⟨h1, h2, h3, h4, h5⟩ := unhide H
      have e1 : rkV (clsV x) = k := by rw [h3]; exact rk_ne (unhide K0).1
      have e2 : rkV (clsV y) = l := by rw [h4]; exact rk_ne (unhide K0).2
      rw [← h5, orF_rank x y (by rw [e1, e2]; omega), e1, e2, sig_gt hc]
end Go.Proofs.Ytnlhgehibbgmoaa
