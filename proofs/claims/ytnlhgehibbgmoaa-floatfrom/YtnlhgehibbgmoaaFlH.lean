/- The contract of Sqrt. -/
import Derived.Test.YtnlhgehibbgmoaaFlG
import Derived.Deep.RegionWith
import Derived.Deep.CutRange
namespace Go.Proofs.Ytnlhgehibbgmoaa
open Go.RowKit

theorem pair_drew {w : World} {B : Nat} {a b : Value} (h : PairAt w B a b) : PairAt w.drew B a b := h
theorem pair_lt {w : World} {B : Nat} {a b : Value} (h : PairAt w B a b) : B < w.heap.size := by
  unfold PairAt at h
  rcases Nat.lt_or_ge B w.heap.size with h1 | h1
  · exact h1
  · rw [Array.getElem?_eq_none h1] at h; cases h

theorem bool_eqv {a b : Bool} (h : a = b) : Value.bool a = Value.bool b := by rw [h]
theorem ordV_neg (n m : Nat) : ordV n m < 0 ↔ n < m := by
  unfold ordV
  by_cases h : n = m
  · rw [if_pos h]; omega
  · rw [if_neg h]
    by_cases h2 : n < m
    · rw [if_pos h2]; omega
    · rw [if_neg h2]; omega

structure RootIn (sq i r : Nat) : Prop where
  top : r + 2 ^ (39 - i) ≤ 549755813888
  low : r = 0 ∨ r * (r - 1) < sq
  high : sq ≤ (r + 2 ^ (39 - i)) * (r + 2 ^ (39 - i) - 1)
theorem root_yes {sq i r : Nat} (hi : i < 39) (h : RootIn sq i r) (hc : (r + 2 ^ (38 - i)) * (r + 2 ^ (38 - i) - 1) < sq) : RootIn sq (i + 1) (r + 2 ^ (38 - i)) := by
  obtain ⟨h1, h2, h3⟩ := h
  have e : 2 ^ (39 - i) = 2 ^ (38 - i) + 2 ^ (38 - i) := by rw [show 39 - i = 38 - i + 1 by omega, Nat.pow_succ]; omega
  rw [e] at h1 h3
  rw [← Nat.add_assoc] at h1 h3
  refine ⟨?_, Or.inr hc, ?_⟩
  · rw [show 39 - (i + 1) = 38 - i by omega]; exact h1
  · rw [show 39 - (i + 1) = 38 - i by omega]; exact h3
theorem root_no {sq i r : Nat} (hi : i < 39) (h : RootIn sq i r) (hc : ¬ (r + 2 ^ (38 - i)) * (r + 2 ^ (38 - i) - 1) < sq) : RootIn sq (i + 1) r := by
  obtain ⟨h1, h2, h3⟩ := h
  have e : 2 ^ (39 - i) = 2 ^ (38 - i) + 2 ^ (38 - i) := by rw [show 39 - i = 38 - i + 1 by omega, Nat.pow_succ]; omega
  refine ⟨?_, h2, ?_⟩
  · rw [show 39 - (i + 1) = 38 - i by omega]; have : 0 < 2 ^ (38 - i) := Nat.two_pow_pos _; omega
  · rw [show 39 - (i + 1) = 38 - i by omega]; exact Nat.le_of_not_lt hc
theorem root_start (sq : Nat) (h : sq ≤ 90000000000000000000000) : RootIn sq 0 0 := ⟨by decide, Or.inl rfl, by
  have : (0 + 2 ^ (39 - 0)) * (0 + 2 ^ (39 - 0) - 1) = 302231454903107537862656 := by decide
  omega⟩

set_option maxHeartbeats 1000000 in
theorem sqrt_bad (a : Int) (w : World) (h : goodB a = false ∨ a < 0) :
    Calls Try.prog 18 #[.int .i64 a] w fun e w' => e = .returned (.tuple #[.int .i64 0, .int .i64 5]) ∧ Below w.heap.size w w' := by
  cases hg : goodB a
  · have HG := hide hg
    clear h hg
    go_enter Try.func18, Try.ntmps18
    go_wp2_with fail
    refine (raw_no a _ (unhide HG)).mono ?_
    rintro e w1 ⟨rfl, b1⟩
    go_wp2
    go_ret2
    exact ⟨rfl, b1⟩
  · have HG := hide hg
    have hn : a < 0 := by
      rcases h with h | h
      · rw [hg] at h; cases h
      · exact h
    clear h hg
    go_enter Try.func18, Try.ntmps18
    go_wp2_with fail
    refine (raw_yes a _ (unhide HG)).mono ?_
    rintro e w1 ⟨rfl, b1⟩
    go_wp2
    go_ret2
    exact ⟨rfl, b1⟩

set_option maxRecDepth 100000 in
set_option maxHeartbeats 2000000 in
theorem sqrt_good (a : Nat) (w : World) (h : a ≤ 9000000000000000000) :
    Calls Try.prog 18 #[.int .i64 (a : Int)] w fun e w' => (∃ r : Nat, e = .returned (.tuple #[.int .i64 (r : Int), .int .i64 0]) ∧ RootIn (a * 10000) 39 r) ∧ Below w.heap.size w w' := by
  have HG : Hid (goodB (a : Int) = true) := hide (by rw [goodB_iff]; omega)
  go_enter Try.func18, Try.ntmps18
  go_wp2_with fail
  refine (raw_yes (a : Int) _ (unhide HG)).mono ?_
  rintro e w1 ⟨rfl, b1⟩
  go_wp2_with fail
  refine (product_two a 10000 _ _ _ rfl rfl (by omega) (by omega)).mono ?_
  rintro e w2 ⟨⟨h1, l1, rfl, T1⟩, b2⟩
  have HB : Hid (Below w.heap.size w (w2.alloc (.cells #[.int .u64 h1, .int .u64 l1] 55))) := hide (by
    have c := below_then b1 b2
    exact c.alloc c.size _)
  have HP := hide (pair_new w2 (.int .u64 h1) (.int .u64 l1))
  have HL : Hid (w.heap.size ≤ w2.heap.size) := hide (below_then b1 b2).size
  clear b1 b2
  go_wp2_with fail
  go_loopw [7, 24] (fun f p wr => ∃ r i : Nat, f = .int .u64 (r : Int) ∧ p = .int .i64 (i : Int) ∧ i ≤ 39 ∧ Hid (RootIn (a * 10000) i r) ∧ Hid (PairAt wr w2.heap.size (.int .u64 h1) (.int .u64 l1)) ∧ Hid (Below w.heap.size w wr)) (fun _ p _ => 39 - (intOf p).toNat)
  case atStart => exact ⟨0, 0, rfl, rfl, by omega, hide (root_start _ (by omega)), HP, HB⟩
  case round =>
    clear HP HB
    obtain ⟨r, i, rfl, rfl, hi, HR, HP, HB⟩ := hrel
    by_cases hlt : i < 39
    · have hr : r + 2 ^ (39 - i) ≤ 549755813888 := (unhide HR).top
      obtain ⟨d, hd⟩ : ∃ d : Nat, 2 ^ (38 - i) = d := ⟨_, rfl⟩
      have hd2 : 2 ^ (39 - i) = d + d := by rw [← hd, show 39 - i = 38 - i + 1 by omega, Nat.pow_succ]; omega
      have hd0 : 0 < d := by rw [← hd]; exact Nat.two_pow_pos _
      rw [hd2] at hr
      obtain ⟨m, hm⟩ : ∃ m : Nat, r + d = m := ⟨_, rfl⟩
      have e1 : IntKind.u64.wrap ((2 : Int) ^ (38 - i)) = (d : Int) := by
        rw [IntKind.wrap_u64, show (2 : Int) ^ (38 - i) = (d : Int) from by rw [← hd]; norm_cast]; omega
      have e2 : IntKind.u64.wrap ((r : Int) + (d : Int)) = (m : Int) := by
        rw [IntKind.wrap_u64]; omega
      have hm1 : 1 ≤ m := by omega
      have hm2 : m ≤ 549755813888 := by omega
      have HY : Hid (m * (m - 1) < a * 10000 → RootIn (a * 10000) (i + 1) m) := hide (fun hc => by
        have := root_yes hlt (unhide HR) (by rw [hd, hm]; exact hc)
        rw [hd, hm] at this; exact this)
      have HN : Hid (¬ m * (m - 1) < a * 10000 → RootIn (a * 10000) (i + 1) r) := hide (fun hc => root_no hlt (unhide HR) (by rw [hd, hm]; exact hc))
      have HM := hide (And.intro hd hm)
      obtain ⟨m1, hm3⟩ : ∃ m1 : Nat, m1 + 1 = m := ⟨m - 1, by omega⟩
      have e3 : IntKind.u64.wrap ((m : Int) - 1) = (m1 : Int) := by rw [IntKind.wrap_u64]; omega
      have HM1 : Hid (m - 1 = m1 ∧ m1 < 18446744073709551616) := hide (by omega)
      have hr2 : r ≤ 549755813888 := by omega
      clear hd hm hd2 hr hd0 hm3
      go_upto_region 9 with fail
      clear e1 e2
      obtain ⟨c, hcc⟩ : ∃ c : Bool, decide (m * (m - 1) < a * 10000) = c := ⟨_, rfl⟩
      have HC : Hid (decide (ordV (m * m1) (a * 10000) < 0) = c) := hide (by rw [← hcc, (unhide HM1).1]; exact decide_eq_decide.2 (ordV_neg _ _))
      have HCC := hide hcc
      clear hcc
      go_cut [24, 38] from 24 to 40 (fun p v wx => p = .int .i64 (i : Int) ∧ v = .bool c ∧ Hid (PairAt wx w2.heap.size (.int .u64 h1) (.int .u64 l1)) ∧ Hid (Below w.heap.size w wx))
      case first =>
        have c0 := pair_c0 (unhide HP)
        have c1 := pair_c1 (unhide HP)
        go_region_with (first
          | (go_at_call 30; refine (product_two m m1 _ _ _ rfl rfl (by omega) (unhide HM1).2).mono ?_; rintro e w3 ⟨⟨h2, l2, rfl, T2⟩, b2⟩; have HP3 := hide (pair_below (pair_drew (unhide HP)) b2 (pair_lt (unhide HP))); have d0 := pair_c0 (unhide HP3); have d1 := pair_c1 (unhide HP3); have HB3 := hide (below_then (unhide HB).drew b2); clear b2)
          | (go_at_call 31; refine (order_two (m * m1) (a * 10000) _ _ _ _ _ (unhide T2) (unhide T1)).mono ?_; rintro e w4 ⟨rfl, b4⟩; have HP4 := hide (pair_below (unhide HP3) b4 (pair_lt (unhide HP3))); have HB4 := hide (below_then (unhide HB3) b4); clear b4))
        all_goals (try go_wp2_with fail)
        all_goals go_meet
        all_goals exact ⟨rfl, bool_eqv (unhide HC), HP4, HB4⟩
      case rest =>
        clear HP HB
        obtain ⟨rfl, rfl, HP, HB⟩ := hcut
        cases c
        · have hc := unhide HCC
          rw [decide_eq_false_iff_not] at hc
          have HR' := hide (unhide HN hc)
          clear hc
          go_wp2_with fail
          go_roundw
          case rel => exact ⟨r, i + 1, rfl, by go_num, by omega, HR', HP, HB⟩
          case measure => simp [intOf]; omega
        · have hc := unhide HCC
          rw [decide_eq_true_iff] at hc
          have HR' := hide (unhide HY hc)
          clear hc
          go_wp2_with fail
          go_roundw
          case rel => exact ⟨m, i + 1, rfl, by go_num, by omega, HR', HP, HB⟩
          case measure => simp [intOf]; omega
    · have hi9 : i = 39 := by omega
      subst hi9
      have hr := (unhide HR).top
      rw [Nat.sub_self, Nat.pow_zero] at hr
      have HG' : Hid (goodB (r : Int) = true) := hide (by rw [goodB_iff]; omega)
      go_wp2_with fail
      refine (raw_yes (r : Int) _ (unhide HG')).mono ?_
      rintro e w5 ⟨rfl, b5⟩
      go_wp2
      go_ret2
      exact ⟨⟨r, rfl, unhide HR⟩, below_then (unhide HB) b5⟩
end Go.Proofs.Ytnlhgehibbgmoaa
