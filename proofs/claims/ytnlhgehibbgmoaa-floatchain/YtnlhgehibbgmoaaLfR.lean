/- The walk of Ratio and of the law FloatRatio: it answers true. -/
import Derived.Test.YtnlhgehibbgmoaaFlS
namespace Go.Proofs.Ytnlhgehibbgmoaa
open Go.RowKit

set_option maxHeartbeats 1000000 in
theorem ratio_any (a b : Int) (w : World) (a1 : -9000000000000000000 ≤ a) (a2 : a ≤ 9000000000000000000) (b1 : -9000000000000000000 ≤ b) (b2 : b ≤ 9000000000000000000) :
    Calls Try.prog 25 #[.int .i64 a, .int .i64 b] w fun e w' => (∃ r, e = .returned (.float .f64 r) ∧ Hid (r < 18446744073709551616 ∧ clsV r = ratC a b)) ∧ Below w.heap.size w w' := by
  have ga : toV a = toF a := by unfold toV goodN; rw [if_pos ((goodB_iff a).2 ⟨a1, a2⟩)]
  have gb : toV b = toF b := by unfold toV goodN; rw [if_pos ((goodB_iff b).2 ⟨b1, b2⟩)]
  have HG := hide (And.intro ga gb)
  by_cases hz : a = 0 ∧ b = 0
  · have hR : ratC a b = 0 := by unfold ratC; rw [if_pos hz.2, if_pos hz.1]
    have hta : toF a = 0 := by rw [hz.1]; exact toF_zero
    have htb : toF b = 0 := by rw [hz.2]; exact toF_zero
    have HT := hide (And.intro hta htb)
    rw [hR]
    clear ga gb hz hR hta htb a1 a2 b1 b2
    go_enter Try.func25, Try.ntmps25
    go_wp2_with fail
    refine (to_any a _).mono ?_
    rintro e w1 ⟨rfl, c1⟩
    rw [(unhide HG).1, (unhide HT).1]
    go_wp2_with fail
    refine (to_any b _).mono ?_
    rintro e w2 ⟨rfl, c2⟩
    rw [(unhide HG).2, (unhide HT).2]
    have c12 := below_then c1 c2
    obtain ⟨n, n1, n2, hn⟩ := run_nan w2
    have HN := hide (And.intro n1 n2)
    clear n1 n2 c1 c2
    go_wp2
    go_ret
    refine ⟨⟨n, rfl, hide ⟨(unhide HN).1, ?_⟩⟩, c12.drew⟩
    unfold clsV; rw [if_pos (unhide HN).2]
  · have hq : ∃ r, Ieee.double.div (toF a) (toF b) = some r ∧ r < 18446744073709551616 ∧ clsV r = ratC a b := by
      by_cases b0 : b = 0
      · subst b0
        exact quo_high a (fun h => hz ⟨h, rfl⟩) a1 a2
      · by_cases a0 : a = 0
        · subst a0; exact quo_low b b0 b1 b2
        · exact quo_both a b a0 b0 a1 a2 b1 b2
    obtain ⟨r, hr, hr2⟩ := hq
    have HR := hide hr2
    have HQ := hide hr
    clear ga gb hz hr2 hr a1 a2 b1 b2
    go_enter Try.func25, Try.ntmps25
    go_wp2_with fail
    refine (to_any a _).mono ?_
    rintro e w1 ⟨rfl, c1⟩
    rw [(unhide HG).1]
    go_wp2_with fail
    refine (to_any b _).mono ?_
    rintro e w2 ⟨rfl, c2⟩
    rw [(unhide HG).2]
    have c12 := below_then c1 c2
    have hn := run_float_arith (P := Try.prog) w2 .quo 23 .f64 (toF a) (toF b) r (unhide HQ)
    clear c1 c2
    go_wp2
    go_ret
    exact ⟨⟨r, rfl, HR⟩, c12⟩

theorem ratC_zero (a b : Int) (ha : a = 0) (hb : b = 0) : ratC a b = 0 := by unfold ratC; rw [if_pos hb, if_pos ha]
theorem ratC_up (a b : Int) (ha : 0 < a) (hb : b = 0) : ratC a b = 6 := by unfold ratC; rw [if_pos hb, if_neg (by omega), if_neg (by omega)]
theorem ratC_down (a b : Int) (ha : a < 0) (hb : b = 0) : ratC a b = 1 := by unfold ratC; rw [if_pos hb, if_neg (by omega), if_pos ha]
theorem ratC_low (a b : Int) (ha : a = 0) (hb : 0 < b) : ratC a b = 4 := by unfold ratC; rw [if_neg (by omega), if_pos ha, if_neg (by omega)]
theorem ratC_mlow (a b : Int) (ha : a = 0) (hb : b < 0) : ratC a b = 3 := by unfold ratC; rw [if_neg (by omega), if_pos ha, if_pos hb]
theorem ratC_pp (a b : Int) (ha : 0 < a) (hb : 0 < b) : ratC a b = 5 := by unfold ratC; rw [if_neg (by omega), if_neg (by omega), decide_eq_false (by omega), decide_eq_false (by omega), if_pos rfl]
theorem ratC_nn (a b : Int) (ha : a < 0) (hb : b < 0) : ratC a b = 5 := by unfold ratC; rw [if_neg (by omega), if_neg (by omega), decide_eq_true ha, decide_eq_true hb, if_pos rfl]
theorem ratC_pn (a b : Int) (ha : 0 < a) (hb : b < 0) : ratC a b = 2 := by unfold ratC; rw [if_neg (by omega), if_neg (by omega), decide_eq_false (by omega), decide_eq_true hb, if_neg (by decide)]
theorem ratC_np (a b : Int) (ha : a < 0) (hb : 0 < b) : ratC a b = 2 := by unfold ratC; rw [if_neg (by omega), if_neg (by omega), decide_eq_true ha, decide_eq_false (by omega), if_neg (by decide)]

theorem goodN_yes {a : Int} (h : goodB a = true) : goodN a = a := by unfold goodN; rw [if_pos h]
theorem goodN_no {a : Int} (h : goodB a = false) : goodN a = 0 := by unfold goodN; rw [h]; rfl
theorem raw_n (a : Int) (w : World) :
    Calls Try.prog 24 #[.int .i64 a] w fun e w' => e = .returned (.tuple #[.int .i64 (goodN a), .int .i64 (if goodB a = true then 0 else 5)]) ∧ Below w.heap.size w w' := raw_any a w

set_option maxRecDepth 100000 in
set_option maxHeartbeats 4000000 in
theorem law_ratio (a b : Int) (w : World) :
    Calls Try.prog 9 #[.int .i64 a, .int .i64 b] w fun e w' => e = .returned (.bool true) ∧ Below w.heap.size w w' := by
  obtain ⟨x, hx⟩ : ∃ x, goodN a = x := ⟨_, rfl⟩
  obtain ⟨y, hy⟩ : ∃ y, goodN b = y := ⟨_, rfl⟩
  have lx := goodN_le a
  have ly := goodN_le b
  rw [hx] at lx
  rw [hy] at ly
  have HL := hide (And.intro lx ly)
  have HXY := hide (And.intro hx hy)
  obtain ⟨c, hc⟩ : ∃ c, ratC x y = c := ⟨_, rfl⟩
  have HC := hide hc
  obtain ⟨E, hE⟩ : ∃ E : Int, (if goodB a = true then 0 else 5) = E := ⟨_, rfl⟩
  obtain ⟨F, hF⟩ : ∃ F : Int, (if goodB b = true then 0 else 5) = F := ⟨_, rfl⟩
  have HEF := hide (And.intro hE hF)
  clear hx hy lx ly hc hE hF
  go_enter Try.func9, Try.ntmps9
  go_wp2_with fail
  refine (raw_n a _).mono ?_
  rintro e w1 ⟨rfl, c1⟩
  rw [(unhide HXY).1, (unhide HEF).1]
  go_wp2_with fail
  refine (raw_n b _).mono ?_
  rintro e w2 ⟨rfl, c2⟩
  rw [(unhide HXY).2, (unhide HEF).2]
  have c12 := below_then c1 c2
  clear c1 c2
  go_wp2_with fail
  refine (ratio_any x y _ (unhide HL).1.1 (unhide HL).1.2 (unhide HL).2.1 (unhide HL).2.2).mono ?_
  rintro e w3 ⟨⟨r, rfl, HR⟩, c3⟩
  have c13 := below_then c12 c3
  clear c12 c3
  go_wp2_with fail
  refine (of_any r _ (unhide HR).1).mono ?_
  rintro e w4 ⟨rfl, rfl⟩
  rw [(unhide HR).2, unhide HC]
  go_wp2_with fail
  refine (wakes_any _).mono ?_
  rintro e w5 ⟨rfl, c5⟩
  have c15 := below_then c13 c5
  clear c13 c5 HR
  cases e0 : (E != 0)
  · cases f0 : (F != 0)
    · rcases Int.lt_trichotomy x 0 with hx | hx | hx <;> rcases Int.lt_trichotomy y 0 with hy | hy | hy
      · rw [ratC_nn x y hx hy] at HC
        have xb : (x == 0) = false := by rw [beq_eq_false_iff_ne]; omega
        have yb : (y == 0) = false := by rw [beq_eq_false_iff_ne]; omega
        have x0 : decide (0 < x) = false := decide_eq_false (by omega)
        have y0 : decide (0 < y) = false := decide_eq_false (by omega)
        obtain rfl := unhide HC
        go_wp2
        go_ret
        exact ⟨rfl, c15⟩
      · rw [ratC_down x y hx hy] at HC
        subst hy
        have xb : (x == 0) = false := by rw [beq_eq_false_iff_ne]; omega
        obtain rfl := unhide HC
        go_wp2
        go_ret
        exact ⟨rfl, c15⟩
      · rw [ratC_np x y hx hy] at HC
        have xb : (x == 0) = false := by rw [beq_eq_false_iff_ne]; omega
        have yb : (y == 0) = false := by rw [beq_eq_false_iff_ne]; omega
        have x0 : decide (0 < x) = false := decide_eq_false (by omega)
        obtain rfl := unhide HC
        go_wp2
        go_ret
        exact ⟨rfl, c15⟩
      · rw [ratC_mlow x y hx hy] at HC
        subst hx
        have yb : (y == 0) = false := by rw [beq_eq_false_iff_ne]; omega
        obtain rfl := unhide HC
        go_wp2
        go_ret
        exact ⟨rfl, c15⟩
      · rw [ratC_zero x y hx hy] at HC
        subst hx hy
        obtain rfl := unhide HC
        go_wp2
        go_ret
        exact ⟨rfl, c15⟩
      · rw [ratC_low x y hx hy] at HC
        subst hx
        have yb : (y == 0) = false := by rw [beq_eq_false_iff_ne]; omega
        obtain rfl := unhide HC
        go_wp2
        go_ret
        exact ⟨rfl, c15⟩
      · rw [ratC_pn x y hx hy] at HC
        have xb : (x == 0) = false := by rw [beq_eq_false_iff_ne]; omega
        have yb : (y == 0) = false := by rw [beq_eq_false_iff_ne]; omega
        have y0 : decide (0 < y) = false := decide_eq_false (by omega)
        obtain rfl := unhide HC
        go_wp2
        go_ret
        exact ⟨rfl, c15⟩
      · rw [ratC_up x y hx hy] at HC
        subst hy
        have xb : (x == 0) = false := by rw [beq_eq_false_iff_ne]; omega
        obtain rfl := unhide HC
        go_wp2
        go_ret
        exact ⟨rfl, c15⟩
      · rw [ratC_pp x y hx hy] at HC
        have xb : (x == 0) = false := by rw [beq_eq_false_iff_ne]; omega
        have yb : (y == 0) = false := by rw [beq_eq_false_iff_ne]; omega
        obtain rfl := unhide HC
        go_wp2
        go_ret
        exact ⟨rfl, c15⟩
    · go_wp2_with fail
      refine (wakes_any _).mono ?_
      rintro e w6 ⟨rfl, c6⟩
      go_wp2
      go_ret
      exact ⟨rfl, below_then c15 c6⟩
  · cases f0 : (F != 0)
    · go_wp2_with fail
      refine (wakes_any _).mono ?_
      rintro e w6 ⟨rfl, c6⟩
      go_wp2
      go_ret
      exact ⟨rfl, below_then c15 c6⟩
    · go_wp2_with fail
      refine (wakes_any _).mono ?_
      rintro e w6 ⟨rfl, c6⟩
      go_wp2
      go_ret
      exact ⟨rfl, below_then c15 c6⟩
end Go.Proofs.Ytnlhgehibbgmoaa
