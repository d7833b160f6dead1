/- The walk of the law FixedSums: it answers true. -/
import Derived.Test.YtobkmjjdnfimoaaDoorLwB
import Derived.Test.YtobkmjjdnfimoaaDoorRfD
namespace Go.Proofs.YtobkmjjdnfimoaaDoor
open Go.RowKit

theorem subR_good (a b : Int) : subR a b = (addN a (-b), addE a (-b)) := by
  unfold subR
  cases hg : goodB b
  · have hn : goodB (-b) = false := by rw [goodB_not] at hg ⊢; omega
    have ho : okAdd a (-b) = false := by unfold okAdd; rw [hn, Bool.and_false]; rfl
    unfold addN addE
    rw [ho]; rfl
  · rfl
theorem sub_bad (a b : Int) (h : goodB a = false) : addN a (-b) = 0 ∧ addE a (-b) = 5 := by
  have ho : okAdd a (-b) = false := by unfold okAdd; rw [h]; rfl
  unfold addN addE
  rw [ho]; exact ⟨rfl, rfl⟩
theorem whole_good (a : Int) (h : wholeB a = true) : goodB a = true := by
  rw [wholeB_iff] at h; rw [goodB_iff]; omega

set_option maxRecDepth 100000 in
set_option maxHeartbeats 4000000 in
theorem sums_bad (a b : Int) (w : World) (he : Env w) (hg : goodB a = false) (a1 : -9223372036854775808 ≤ a) (a2 : a ≤ 9223372036854775807) (v1 : -9223372036854775808 ≤ b) (v2 : b ≤ 9223372036854775807) :
    Calls Tryd.prog 3 #[.int .i64 a, .int .i64 b] w fun e w' => e = .returned (.bool true) ∧ Below w.heap.size w w' := by
  have hw : wholeB a = false := by
    cases h : wholeB a
    · rfl
    · rw [whole_good a h] at hg; cases hg
  have HE := hide he
  have HG := hide hg
  have HW := hide hw
  have HS := hide (sub_bad a b hg)
  have hwn := (wholeB_not a).1 hw
  clear he hg hw
  rcases hwn with hwn | hwn
  · have d1 : decide (-900000000000000 ≤ a) = false := by rw [decide_eq_false_iff_not]; omega
    go_enter Tryd.func3, Tryd.ntmps3
    go_wp2_with fail
    refine (add_any a b _).mono ?_
    rintro e w1 ⟨rfl, b1⟩
    go_wp2_with fail
    refine (add_ref a b _ a1 a2 v1 v2).mono ?_
    rintro e w2 ⟨rfl, b2⟩
    have b12 := below_then b1 b2
    go_wp2_with fail
    refine (sub_any a b _ v1 v2).mono ?_
    rintro e w3 ⟨rfl, b3⟩
    have b13 := below_then b12 b3
    go_wp2_with fail
    refine (sub_ref a b _ a1 a2).mono ?_
    rintro e w4 ⟨rfl, b4⟩
    have b14 := below_then b13 b4
    rw [subR_good, (unhide HS).1, (unhide HS).2]
    generalize addN a b = sn at *
    generalize addE a b = se at *
    skip
    go_wp2_with fail
    refine (good_ref a _).mono ?_
    rintro e w5 ⟨rfl, rfl⟩
    rw [unhide HG]
    go_wp2_with fail
    refine (raw_no a _ (unhide HG)).mono ?_
    rintro e w6 ⟨rfl, b6⟩
    have b16 := below_then b14 b6
    go_wp2_with fail
    refine (good_ref a _).mono ?_
    rintro e w7 ⟨rfl, rfl⟩
    rw [unhide HG]
    go_wp2_with fail
    refine (of_any a _).mono ?_
    rintro e w8 ⟨rfl, rfl⟩
    rw [unhide HW]
    go_wp2_with fail
    refine (wakes_any _ ((unhide HE).below b16)).mono ?_
    rintro e w9 ⟨rfl, b9⟩
    go_wp2
    go_ret
    exact ⟨rfl, below_then b16 b9⟩
  · have d1 : decide (-900000000000000 ≤ a) = true := by rw [decide_eq_true_iff]; omega
    have d2 : decide (a ≤ 900000000000000) = false := by rw [decide_eq_false_iff_not]; omega
    go_enter Tryd.func3, Tryd.ntmps3
    go_wp2_with fail
    refine (add_any a b _).mono ?_
    rintro e w1 ⟨rfl, b1⟩
    go_wp2_with fail
    refine (add_ref a b _ a1 a2 v1 v2).mono ?_
    rintro e w2 ⟨rfl, b2⟩
    have b12 := below_then b1 b2
    go_wp2_with fail
    refine (sub_any a b _ v1 v2).mono ?_
    rintro e w3 ⟨rfl, b3⟩
    have b13 := below_then b12 b3
    go_wp2_with fail
    refine (sub_ref a b _ a1 a2).mono ?_
    rintro e w4 ⟨rfl, b4⟩
    have b14 := below_then b13 b4
    rw [subR_good, (unhide HS).1, (unhide HS).2]
    generalize addN a b = sn at *
    generalize addE a b = se at *
    skip
    go_wp2_with fail
    refine (good_ref a _).mono ?_
    rintro e w5 ⟨rfl, rfl⟩
    rw [unhide HG]
    go_wp2_with fail
    refine (raw_no a _ (unhide HG)).mono ?_
    rintro e w6 ⟨rfl, b6⟩
    have b16 := below_then b14 b6
    go_wp2_with fail
    refine (good_ref a _).mono ?_
    rintro e w7 ⟨rfl, rfl⟩
    rw [unhide HG]
    go_wp2_with fail
    refine (of_any a _).mono ?_
    rintro e w8 ⟨rfl, rfl⟩
    rw [unhide HW]
    go_wp2_with fail
    refine (wakes_any _ ((unhide HE).below b16)).mono ?_
    rintro e w9 ⟨rfl, b9⟩
    go_wp2
    go_ret
    exact ⟨rfl, below_then b16 b9⟩

set_option maxRecDepth 100000 in
set_option maxHeartbeats 4000000 in
theorem sums_far (a b : Int) (w : World) (he : Env w) (hg : goodB a = true) (hw : wholeB a = false) (v1 : -9223372036854775808 ≤ b) (v2 : b ≤ 9223372036854775807) :
    Calls Tryd.prog 3 #[.int .i64 a, .int .i64 b] w fun e w' => e = .returned (.bool true) ∧ Below w.heap.size w w' := by
  have HE := hide he
  have HG := hide hg
  have HW := hide hw
  have hgg := (goodB_iff a).1 hg
  have hwn := (wholeB_not a).1 hw
  have a1 : -9223372036854775808 ≤ a := by omega
  have a2 : a ≤ 9223372036854775807 := by omega
  clear he hg hw hgg
  rcases hwn with hwn | hwn
  · have d1 : decide (-900000000000000 ≤ a) = false := by rw [decide_eq_false_iff_not]; omega
    go_enter Tryd.func3, Tryd.ntmps3
    go_wp2_with fail
    refine (add_any a b _).mono ?_
    rintro e w1 ⟨rfl, b1⟩
    go_wp2_with fail
    refine (add_ref a b _ a1 a2 v1 v2).mono ?_
    rintro e w2 ⟨rfl, b2⟩
    have b12 := below_then b1 b2
    go_wp2_with fail
    refine (sub_any a b _ v1 v2).mono ?_
    rintro e w3 ⟨rfl, b3⟩
    have b13 := below_then b12 b3
    go_wp2_with fail
    refine (sub_ref a b _ a1 a2).mono ?_
    rintro e w4 ⟨rfl, b4⟩
    have b14 := below_then b13 b4
    rw [subR_good]
    generalize addN a b = sn at *
    generalize addE a b = se at *
    generalize addN a (-b) = un at *
    generalize addE a (-b) = ue at *
    go_wp2_with fail
    refine (good_ref a _).mono ?_
    rintro e w5 ⟨rfl, rfl⟩
    rw [unhide HG]
    go_wp2_with fail
    refine (raw_yes a _ (unhide HG)).mono ?_
    rintro e w6 ⟨rfl, b6⟩
    have b16 := below_then b14 b6
    go_wp2_with fail
    refine (good_ref a _).mono ?_
    rintro e w7 ⟨rfl, rfl⟩
    rw [unhide HG]
    go_wp2_with fail
    refine (of_any a _).mono ?_
    rintro e w8 ⟨rfl, rfl⟩
    rw [unhide HW]
    go_wp2_with fail
    refine (wakes_any _ ((unhide HE).below b16)).mono ?_
    rintro e w9 ⟨rfl, b9⟩
    go_wp2
    go_ret
    exact ⟨rfl, below_then b16 b9⟩
  · have d1 : decide (-900000000000000 ≤ a) = true := by rw [decide_eq_true_iff]; omega
    have d2 : decide (a ≤ 900000000000000) = false := by rw [decide_eq_false_iff_not]; omega
    go_enter Tryd.func3, Tryd.ntmps3
    go_wp2_with fail
    refine (add_any a b _).mono ?_
    rintro e w1 ⟨rfl, b1⟩
    go_wp2_with fail
    refine (add_ref a b _ a1 a2 v1 v2).mono ?_
    rintro e w2 ⟨rfl, b2⟩
    have b12 := below_then b1 b2
    go_wp2_with fail
    refine (sub_any a b _ v1 v2).mono ?_
    rintro e w3 ⟨rfl, b3⟩
    have b13 := below_then b12 b3
    go_wp2_with fail
    refine (sub_ref a b _ a1 a2).mono ?_
    rintro e w4 ⟨rfl, b4⟩
    have b14 := below_then b13 b4
    rw [subR_good]
    generalize addN a b = sn at *
    generalize addE a b = se at *
    generalize addN a (-b) = un at *
    generalize addE a (-b) = ue at *
    go_wp2_with fail
    refine (good_ref a _).mono ?_
    rintro e w5 ⟨rfl, rfl⟩
    rw [unhide HG]
    go_wp2_with fail
    refine (raw_yes a _ (unhide HG)).mono ?_
    rintro e w6 ⟨rfl, b6⟩
    have b16 := below_then b14 b6
    go_wp2_with fail
    refine (good_ref a _).mono ?_
    rintro e w7 ⟨rfl, rfl⟩
    rw [unhide HG]
    go_wp2_with fail
    refine (of_any a _).mono ?_
    rintro e w8 ⟨rfl, rfl⟩
    rw [unhide HW]
    go_wp2_with fail
    refine (wakes_any _ ((unhide HE).below b16)).mono ?_
    rintro e w9 ⟨rfl, b9⟩
    go_wp2
    go_ret
    exact ⟨rfl, below_then b16 b9⟩

set_option maxRecDepth 100000 in
set_option maxHeartbeats 4000000 in
theorem sums_near (a b : Int) (w : World) (he : Env w) (hw : wholeB a = true) (v1 : -9223372036854775808 ≤ b) (v2 : b ≤ 9223372036854775807) :
    Calls Tryd.prog 3 #[.int .i64 a, .int .i64 b] w fun e w' => e = .returned (.bool true) ∧ Below w.heap.size w w' := by
  have HE := hide he
  have HG := hide (whole_good a hw)
  have HW := hide hw
  obtain ⟨g1, g2⟩ := (wholeB_iff a).1 hw
  have a1 : -9223372036854775808 ≤ a := by omega
  have a2 : a ≤ 9223372036854775807 := by omega
  have em : (a * 10000 == 10000 * a) = true := by rw [beq_iff_eq]; omega
  clear he hw
  go_enter Tryd.func3, Tryd.ntmps3
  go_wp2_with fail
  refine (add_any a b _).mono ?_
  rintro e w1 ⟨rfl, b1⟩
  go_wp2_with fail
  refine (add_ref a b _ a1 a2 v1 v2).mono ?_
  rintro e w2 ⟨rfl, b2⟩
  have b12 := below_then b1 b2
  go_wp2_with fail
  refine (sub_any a b _ v1 v2).mono ?_
  rintro e w3 ⟨rfl, b3⟩
  have b13 := below_then b12 b3
  go_wp2_with fail
  refine (sub_ref a b _ a1 a2).mono ?_
  rintro e w4 ⟨rfl, b4⟩
  have b14 := below_then b13 b4
  rw [subR_good]
  generalize addN a b = sn at *
  generalize addE a b = se at *
  generalize addN a (-b) = un at *
  generalize addE a (-b) = ue at *
  go_wp2_with fail
  refine (good_ref a _).mono ?_
  rintro e w5 ⟨rfl, rfl⟩
  rw [unhide HG]
  go_wp2_with fail
  refine (raw_yes a _ (unhide HG)).mono ?_
  rintro e w6 ⟨rfl, b6⟩
  have b16 := below_then b14 b6
  go_wp2_with fail
  refine (good_ref a _).mono ?_
  rintro e w7 ⟨rfl, rfl⟩
  rw [unhide HG]
  go_wp2_with fail
  refine (of_any a _).mono ?_
  rintro e w8 ⟨rfl, rfl⟩
  rw [unhide HW]
  go_wp2_with fail
  refine (wakes_any _ ((unhide HE).below b16)).mono ?_
  rintro e w9 ⟨rfl, b9⟩
  go_wp2
  go_ret
  exact ⟨rfl, below_then b16 b9⟩

theorem sums_any (a b : Int) (w : World) (he : Env w) (a1 : -9223372036854775808 ≤ a) (a2 : a ≤ 9223372036854775807) (v1 : -9223372036854775808 ≤ b) (v2 : b ≤ 9223372036854775807) :
    Calls Tryd.prog 3 #[.int .i64 a, .int .i64 b] w fun e w' => e = .returned (.bool true) ∧ Below w.heap.size w w' := by
  cases hw : wholeB a
  · cases hg : goodB a
    · exact sums_bad a b w he hg a1 a2 v1 v2
    · exact sums_far a b w he hg hw v1 v2
  · exact sums_near a b w he hw v1 v2
end Go.Proofs.YtobkmjjdnfimoaaDoor
