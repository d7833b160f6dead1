/- The walk of the law FixedBack: it answers true. -/
import Derived.Test.YtobkmjjdnfimoaaDoorLwA
import Derived.Test.YtobkmjjdnfimoaaDoorFxN
namespace Go.Proofs.YtobkmjjdnfimoaaDoor
open Go.RowKit

/-- How what is left stands to Go's own rest. -/
theorem modV_cases (a b : Int) (hb : b ≠ 0) :
    (a.tmod b = 0 ∧ modV a b = 0) ∨ (a.tmod b < 0 ∧ b < 0 ∧ b < a.tmod b ∧ modV a b = a.tmod b) ∨ (0 < a.tmod b ∧ 0 < b ∧ a.tmod b < b ∧ modV a b = a.tmod b) ∨
      (a.tmod b < 0 ∧ 0 < b ∧ 0 < a.tmod b + b ∧ a.tmod b + b < b ∧ modV a b = a.tmod b + b) ∨ (0 < a.tmod b ∧ b < 0 ∧ a.tmod b + b < 0 ∧ b < a.tmod b + b ∧ modV a b = a.tmod b + b) := by
  have h1 : (a.tmod b).natAbs = a.natAbs % b.natAbs := Int.natAbs_tmod a b
  have h2 : a.natAbs % b.natAbs < b.natAbs := Nat.mod_lt _ (by omega)
  rw [← h1] at h2
  clear h1
  unfold modV
  generalize a.tmod b = t at *
  rcases Int.lt_trichotomy t 0 with ht | ht | ht
  · by_cases hn : b < 0
    · refine Or.inr (Or.inl ⟨ht, hn, by omega, ?_⟩)
      rw [if_neg]; intro h; have := h.2; simp [ht, hn] at this
    · refine Or.inr (Or.inr (Or.inr (Or.inl ⟨ht, by omega, by omega, by omega, ?_⟩)))
      rw [if_pos]; exact ⟨by omega, by simp [ht]; omega⟩
  · subst ht
    exact Or.inl ⟨rfl, by rw [if_neg]; intro h; exact h.1 rfl⟩
  · by_cases hn : b < 0
    · refine Or.inr (Or.inr (Or.inr (Or.inr ⟨ht, hn, by omega, by omega, ?_⟩)))
      rw [if_pos]; exact ⟨by omega, by simp [hn]; omega⟩
    · refine Or.inr (Or.inr (Or.inl ⟨ht, by omega, by omega, ?_⟩))
      rw [if_neg]; intro h; have h2 := h.2
      rw [decide_eq_false (by omega), decide_eq_false hn] at h2; cases h2

theorem raw_yes (a : Int) (w : World) (h : goodB a = true) :
    Calls Tryd.prog 14 #[.int .i64 a] w fun e w' => e = .returned (.tuple #[.int .i64 a, .int .i64 0]) ∧ Below w.heap.size w w' := by
  have := raw_any a w
  rw [h] at this
  exact this
theorem raw_no (a : Int) (w : World) (h : goodB a = false) :
    Calls Tryd.prog 14 #[.int .i64 a] w fun e w' => e = .returned (.tuple #[.int .i64 0, .int .i64 5]) ∧ Below w.heap.size w w' := by
  have := raw_any a w
  rw [h] at this
  exact this

set_option maxRecDepth 100000 in
set_option maxHeartbeats 2000000 in
theorem back_bad (a b : Int) (w : World) (he : Env w) (hg : (goodB a && goodB b) = false) :
    Calls Tryd.prog 7 #[.int .i64 a, .int .i64 b] w fun e w' => e = .returned (.bool true) ∧ Below w.heap.size w w' := by
  have HE := hide he
  clear he
  cases ha : goodB a <;> cases hb : goodB b <;> have HA := hide ha <;> have HB := hide hb <;> rw [ha, hb] at hg <;> clear ha hb
  · clear hg
    go_enter Tryd.func7, Tryd.ntmps7
    go_wp2_with fail
    refine (raw_no a _ (unhide HA)).mono ?_
    rintro e w1 ⟨rfl, b1⟩
    go_wp2_with fail
    refine (raw_no b _ (unhide HB)).mono ?_
    rintro e w2 ⟨rfl, b2⟩
    have b12 := below_then b1 b2
    go_wp2_with fail
    refine (wakes_any _ ((unhide HE).below b12)).mono ?_
    rintro e w3 ⟨rfl, b3⟩
    have b13 := below_then b12 b3
    go_wp2_with fail
    refine (wakes_any _ ((unhide HE).below b13)).mono ?_
    rintro e w4 ⟨rfl, b4⟩
    go_wp2
    go_ret
    exact ⟨rfl, below_then b13 b4⟩
  · clear hg
    go_enter Tryd.func7, Tryd.ntmps7
    go_wp2_with fail
    refine (raw_no a _ (unhide HA)).mono ?_
    rintro e w1 ⟨rfl, b1⟩
    go_wp2_with fail
    refine (raw_yes b _ (unhide HB)).mono ?_
    rintro e w2 ⟨rfl, b2⟩
    have b12 := below_then b1 b2
    go_wp2_with fail
    refine (wakes_any _ ((unhide HE).below b12)).mono ?_
    rintro e w3 ⟨rfl, b3⟩
    have b13 := below_then b12 b3
    go_wp2_with fail
    refine (wakes_any _ ((unhide HE).below b13)).mono ?_
    rintro e w4 ⟨rfl, b4⟩
    go_wp2
    go_ret
    exact ⟨rfl, below_then b13 b4⟩
  · clear hg
    go_enter Tryd.func7, Tryd.ntmps7
    go_wp2_with fail
    refine (raw_yes a _ (unhide HA)).mono ?_
    rintro e w1 ⟨rfl, b1⟩
    go_wp2_with fail
    refine (raw_no b _ (unhide HB)).mono ?_
    rintro e w2 ⟨rfl, b2⟩
    have b12 := below_then b1 b2
    go_wp2_with fail
    refine (wakes_any _ ((unhide HE).below b12)).mono ?_
    rintro e w3 ⟨rfl, b3⟩
    have b13 := below_then b12 b3
    go_wp2_with fail
    refine (wakes_any _ ((unhide HE).below b13)).mono ?_
    rintro e w4 ⟨rfl, b4⟩
    go_wp2
    go_ret
    exact ⟨rfl, below_then b13 b4⟩
  · cases hg

set_option maxRecDepth 100000 in
set_option maxHeartbeats 4000000 in
theorem back_good (a b : Int) (w : World) (he : Env w) (hga : goodB a = true) (hgb : goodB b = true) :
    Calls Tryd.prog 7 #[.int .i64 a, .int .i64 b] w fun e w' => e = .returned (.bool true) ∧ Below w.heap.size w w' := by
  have HE := hide he
  have HA := hide hga
  have HB := hide hgb
  have HPT := hide (parse_text a hga)
  have HTL := hide (text_len a)
  have hgg : (goodB a && goodB b) = true := by rw [hga, hgb]; rfl
  have hmr : modR a b = (if b = 0 then (0, 6) else (modV a b, 0)) := by unfold modR; rw [hgg]; rfl
  have HMR := hide hmr
  obtain ⟨a1, a2⟩ := (goodB_iff a).1 hga
  obtain ⟨v1, v2⟩ := (goodB_iff b).1 hgb
  clear he hga hgb hgg hmr
  go_enter Tryd.func7, Tryd.ntmps7
  go_wp2_with fail
  refine (raw_yes a _ (unhide HA)).mono ?_
  rintro e w1 ⟨rfl, b1⟩
  go_wp2_with fail
  refine (raw_yes b _ (unhide HB)).mono ?_
  rintro e w2 ⟨rfl, b2⟩
  have b12 := below_then b1 b2
  go_wp2_with fail
  refine (wakes_any _ ((unhide HE).below b12)).mono ?_
  rintro e w3 ⟨rfl, b3⟩
  have b13 := below_then b12 b3
  go_wp2_with fail
  refine (text_any a _ ((unhide HE).below b13).tab).mono ?_
  rintro e w4 ⟨rfl, b4⟩
  have b14 := below_then b13 b4
  go_wp2_with fail
  refine (parse_any _ _ (by show (textL a).length < _; have := unhide HTL; omega) ((unhide HE).below b14).len).mono ?_
  rintro e w5 ⟨rfl, b5⟩
  have b15 := below_then b14 b5
  rw [show (⟨(textL a).toArray⟩ : ByteArray).data.toList = textL a from rfl, unhide HPT]
  go_wp2_with fail
  refine (add_any a b _).mono ?_
  rintro e w6 ⟨rfl, b6⟩
  have b16 := below_then b15 b6
  cases ho : okAdd a b
  · have ea : addN a b = 0 ∧ addE a b = 5 := by unfold addN addE; rw [ho]; exact ⟨rfl, rfl⟩
    rw [ea.1, ea.2]
    clear ea ho
    go_wp2_with fail
    refine (mod_any a b _).mono ?_
    rintro e w7 ⟨rfl, b7⟩
    have b17 := below_then b16 b7
    rw [unhide HMR]
    by_cases hb0 : b = 0
    · rw [if_pos hb0]
      have hbb : (b == 0) = true := by rw [beq_iff_eq]; exact hb0
      have HB0 := hide hb0
      clear hb0
      go_wp2
      go_ret
      exact ⟨rfl, b17⟩
    · rw [if_neg hb0]
      have hbb : (b == 0) = false := by rw [beq_eq_false_iff_ne]; exact hb0
      have hmc := modV_cases a b hb0
      have HB0 := hide hb0
      clear hb0
      rcases hmc with ⟨h1, h2⟩ | ⟨h1, h2, h3, h4⟩ | ⟨h1, h2, h3, h4⟩ | ⟨h1, h2, h3, h4, h5⟩ | ⟨h1, h2, h3, h4, h5⟩
      · rw [h2]
        have H2 := hide h2
        clear h2
        go_wp2
        go_ret
        exact ⟨rfl, b17⟩
      · rw [h4]
        have H4 := hide h4
        clear h4
        have e1 : (a.tmod b == 0) = false := by rw [beq_eq_false_iff_ne]; omega
        go_wp2
        go_ret
        exact ⟨rfl, b17⟩
      · rw [h4]
        have H4 := hide h4
        clear h4
        have e1 : (a.tmod b == 0) = false := by rw [beq_eq_false_iff_ne]; omega
        have e2 : decide (a.tmod b < 0) = false := by rw [decide_eq_false_iff_not]; omega
        go_wp2
        go_ret
        exact ⟨rfl, b17⟩
      · rw [h5]
        have H5 := hide h5
        clear h5
        have e1 : (a.tmod b + b == 0) = false := by rw [beq_eq_false_iff_ne]; omega
        have e2 : decide (a.tmod b + b < 0) = false := by rw [decide_eq_false_iff_not]; omega
        have e3 : (a.tmod b + b == a.tmod b) = false := by rw [beq_eq_false_iff_ne]; omega
        go_wp2
        go_ret
        exact ⟨rfl, b17⟩
      · rw [h5]
        have H5 := hide h5
        clear h5
        have e1 : (a.tmod b + b == 0) = false := by rw [beq_eq_false_iff_ne]; omega
        have e3 : (a.tmod b + b == a.tmod b) = false := by rw [beq_eq_false_iff_ne]; omega
        go_wp2
        go_ret
        exact ⟨rfl, b17⟩
  · have ea : addN a b = a + b ∧ addE a b = 0 := by unfold addN addE; rw [ho]; exact ⟨rfl, rfl⟩
    have hs : addN (a + b) (-b) = a ∧ addE (a + b) (-b) = 0 := by
      have h := (okAdd_iff a b).1 ho
      have : okAdd (a + b) (-b) = true := by rw [okAdd_iff]; omega
      unfold addN addE; rw [this]; exact ⟨by simp; omega, rfl⟩
    rw [ea.1, ea.2]
    have HS := hide hs
    clear ea ho hs
    go_wp2_with fail
    refine (sub_any (a + b) b _ (by omega) (by omega)).mono ?_
    rintro e w8 ⟨rfl, b8⟩
    have b18 := below_then b16 b8
    rw [(unhide HS).1, (unhide HS).2]
    go_wp2_with fail
    refine (mod_any a b _).mono ?_
    rintro e w7 ⟨rfl, b7⟩
    have b17 := below_then b18 b7
    rw [unhide HMR]
    by_cases hb0 : b = 0
    · rw [if_pos hb0]
      have hbb : (b == 0) = true := by rw [beq_iff_eq]; exact hb0
      have HB0 := hide hb0
      clear hb0
      go_wp2
      go_ret
      exact ⟨rfl, b17⟩
    · rw [if_neg hb0]
      have hbb : (b == 0) = false := by rw [beq_eq_false_iff_ne]; exact hb0
      have hmc := modV_cases a b hb0
      have HB0 := hide hb0
      clear hb0
      rcases hmc with ⟨h1, h2⟩ | ⟨h1, h2, h3, h4⟩ | ⟨h1, h2, h3, h4⟩ | ⟨h1, h2, h3, h4, h5⟩ | ⟨h1, h2, h3, h4, h5⟩
      · rw [h2]
        have H2 := hide h2
        clear h2
        go_wp2
        go_ret
        exact ⟨rfl, b17⟩
      · rw [h4]
        have H4 := hide h4
        clear h4
        have e1 : (a.tmod b == 0) = false := by rw [beq_eq_false_iff_ne]; omega
        go_wp2
        go_ret
        exact ⟨rfl, b17⟩
      · rw [h4]
        have H4 := hide h4
        clear h4
        have e1 : (a.tmod b == 0) = false := by rw [beq_eq_false_iff_ne]; omega
        have e2 : decide (a.tmod b < 0) = false := by rw [decide_eq_false_iff_not]; omega
        go_wp2
        go_ret
        exact ⟨rfl, b17⟩
      · rw [h5]
        have H5 := hide h5
        clear h5
        have e1 : (a.tmod b + b == 0) = false := by rw [beq_eq_false_iff_ne]; omega
        have e2 : decide (a.tmod b + b < 0) = false := by rw [decide_eq_false_iff_not]; omega
        have e3 : (a.tmod b + b == a.tmod b) = false := by rw [beq_eq_false_iff_ne]; omega
        go_wp2
        go_ret
        exact ⟨rfl, b17⟩
      · rw [h5]
        have H5 := hide h5
        clear h5
        have e1 : (a.tmod b + b == 0) = false := by rw [beq_eq_false_iff_ne]; omega
        have e3 : (a.tmod b + b == a.tmod b) = false := by rw [beq_eq_false_iff_ne]; omega
        go_wp2
        go_ret
        exact ⟨rfl, b17⟩

theorem back_any (a b : Int) (w : World) (he : Env w) :
    Calls Tryd.prog 7 #[.int .i64 a, .int .i64 b] w fun e w' => e = .returned (.bool true) ∧ Below w.heap.size w w' := by
  cases hg : (goodB a && goodB b)
  · exact back_bad a b w he hg
  · rw [Bool.and_eq_true] at hg
    exact back_good a b w he hg.1 hg.2
end Go.Proofs.YtobkmjjdnfimoaaDoor
