/- The contract of Parts. -/
import Derived.Test.YtnlhgehibbgmoaaFlB
import Derived.Test.YtnlhgehibbgmoaaFlP
import Derived.OwnWalk
namespace Go.Proofs.Ytnlhgehibbgmoaa
open Go.RowKit

/-- A word in a value. -/
def fbits : Value → Nat
  | .float _ b => b
  | _ => 0
theorem f64_format' : Ieee.double = FloatKind.f64.format := rfl
theorem half_run {P : Program} (w : World) (r : Nat) (h1 : 4845873199050653696 ≤ r) (h2 : r < 9218868437227405312) : (binOp .quo 23 (.float .f64 r) (.float .f64 4611686018427387904)).run P w = .ok (.float .f64 (r - 4503599627370496)) w :=
  run_float_arith w .quo 23 .f64 r 4611686018427387904 _ (Fl.div_two r h1 h2)
theorem geq_c53 (r : Nat) (h : r < 9218868437227405312) : (FloatKind.f64.format.order r 4845873199050653696 == some .gt || FloatKind.f64.format.order r 4845873199050653696 == some .eq) = decide (4845873199050653696 ≤ r) := by
  have h1 : Fl.rng r ≤ 9218868437227405312 := by rw [Fl.rng_small (by omega)]; omega
  have k1 : Fl.kv r = (r : Int) := by rw [kv_pos (Fl.sgn_small (by omega)), Fl.rng_small (by omega)]
  have k2 : Fl.kv 4845873199050653696 = 4845873199050653696 := by decide
  rw [f64_format, Fl.key_gt r _ h1 (by decide), Fl.key_eq r _ h1 (by decide), k1, k2]
  rcases Nat.lt_trichotomy r 4845873199050653696 with h | h | h
  · rw [decide_eq_false (by omega), decide_eq_false (by omega), decide_eq_false (by omega)]; rfl
  · subst h; decide
  · rw [decide_eq_true (by omega), decide_eq_true (by omega : 4845873199050653696 ≤ r)]; rfl
theorem lss_c52 (r : Nat) (h : r < 9218868437227405312) : (FloatKind.f64.format.order r 4841369599423283200 == some .lt) = decide (r < 4841369599423283200) := by
  have h1 : Fl.rng r ≤ 9218868437227405312 := by rw [Fl.rng_small (by omega)]; omega
  have k1 : Fl.kv r = (r : Int) := by rw [kv_pos (Fl.sgn_small (by omega)), Fl.rng_small (by omega)]
  have k2 : Fl.kv 4841369599423283200 = 4841369599423283200 := by decide
  rw [f64_format, Fl.key_lt r _ h1 (by decide), k1, k2]
  exact decide_eq_decide.2 (by omega)

set_option maxHeartbeats 1000000 in
theorem parts_bad (b : Nat) (w : World) (hb : b < 18446744073709551616) (h : 9218868437227405312 ≤ Fl.rng b) :
    Calls Try.prog 11 #[.float .f64 b] w fun e w' => e = .returned (.tuple #[.bool (Fl.sgn b), .int .u64 0, .int .i64 0]) ∧ w' = w := by
  have hc : clsV b = 0 ∨ clsV b = 1 ∨ clsV b = 6 := by
    unfold clsV
    by_cases h1 : 9218868437227405312 < Fl.rng b
    · rw [if_pos h1]; exact Or.inl rfl
    · rw [if_neg h1, if_pos (by omega)]; cases Fl.sgn b
      · exact Or.inr (Or.inr rfl)
      · exact Or.inr (Or.inl rfl)
  have HB := hide hb
  have HC := hide hc
  clear hb hc h
  go_enter Try.func11, Try.ntmps11
  go_wp2_with fail
  refine (signbit_any b _).mono ?_
  rintro e w1 ⟨rfl, rfl⟩
  go_wp2_with fail
  refine (of_any b _ (unhide HB)).mono ?_
  rintro e w2 ⟨rfl, rfl⟩
  rcases unhide HC with h | h | h <;> rw [h] <;> clear h
  · go_wp2
    go_ret3
    exact ⟨rfl, rfl⟩
  · go_wp2
    go_ret3
    exact ⟨rfl, rfl⟩
  · go_wp2
    go_ret3
    exact ⟨rfl, rfl⟩

theorem cls_fin (b : Nat) (h : Fl.rng b < 9218868437227405312) : ∃ k : Int, clsV b = k ∧ (k == 0) = false ∧ (k == 1) = false ∧ (k == 6) = false := by
  unfold clsV
  rw [if_neg (by omega), if_neg (by omega)]
  split <;> split
  · exact ⟨_, rfl, rfl, rfl, rfl⟩
  · exact ⟨_, rfl, rfl, rfl, rfl⟩
  · exact ⟨_, rfl, rfl, rfl, rfl⟩
  · exact ⟨_, rfl, rfl, rfl, rfl⟩

theorem und23 : (Try.prog.underlying 23).isSome = true := by rw [Try.underlying23]; rfl
theorem ret3 {v : Value} {k k' : IntKind} {a b c d : Int} (h : a = b) (h' : c = d) : Ending.returned (.tuple #[v, .int k a, .int k' c]) = .returned (.tuple #[v, .int k b, .int k' d]) := by rw [h, h']

set_option maxRecDepth 100000 in
set_option maxHeartbeats 1000000 in
theorem parts_fin (b : Nat) (w : World) (hb : b < 18446744073709551616) (h : Fl.rng b < 9218868437227405312) :
    Calls Try.prog 11 #[.float .f64 b] w fun e w' => e = .returned (.tuple #[.bool (Fl.sgn b), .int .u64 (Fl.mm (Fl.rng b) : Int), .int .i64 ((Fl.mk (Fl.rng b) : Int) - 1074)]) ∧ w' = w := by
  obtain ⟨k, hk, k0, k1, k6⟩ := cls_fin b h
  have HB := hide hb
  have HK := hide hk
  have HA := hide (abs_any b w hb)
  clear hb hk
  go_enter Try.func11, Try.ntmps11
  go_wp2_with fail
  refine (signbit_any b _).mono ?_
  rintro e w1 ⟨rfl, rfl⟩
  go_wp2_with fail
  refine (of_any b _ (unhide HB)).mono ?_
  rintro e w2 ⟨rfl, rfl⟩
  rw [unhide HK]
  go_wp2_with fail
  refine (unhide HA).mono ?_
  rintro e w3 ⟨rfl, rfl⟩
  obtain ⟨r0, hr0⟩ : ∃ r0, Fl.rng b = r0 := ⟨_, rfl⟩
  rw [hr0] at h ⊢
  have HR := hide hr0
  clear hr0
  go_wp2_with fail
  go_loop [6, 7] (fun f p => ∃ r q : Nat, f = .float .f64 r ∧ p = .int .i64 (q : Int) ∧ r + q * 4503599627370496 = r0 ∧ (q = 0 ∨ 4841369599423283200 ≤ r)) (fun f _ => fbits f)
  case atStart => exact ⟨r0, 0, rfl, rfl, by omega, Or.inl rfl⟩
  case round =>
    obtain ⟨r, q, rfl, rfl, hrq, hor⟩ := hrel
    have hr : r < 9218868437227405312 := by omega
    have hq : q ≤ 2047 := by omega
    have eg := geq_c53 r hr
    by_cases hc : 4845873199050653696 ≤ r
    · rw [decide_eq_true hc] at eg
      obtain ⟨r', hr'⟩ : ∃ r', r - 4503599627370496 = r' := ⟨_, rfl⟩
      have ed := half_run (P := Try.prog) w3 r hc hr
      rw [hr'] at ed
      have H : Hid (4845873199050653696 ≤ r ∧ r' + (q + 1) * 4503599627370496 = r0 ∧ r' < r ∧ 4841369599423283200 ≤ r') := hide (by omega)
      clear hc hrq hor hr h hr'
      go_wp2
      go_round
      case rel => exact ⟨r', q + 1, rfl, by go_num, (unhide H).2.1, Or.inr (unhide H).2.2.2⟩
      case measure => exact (unhide H).2.2.1
    · rw [decide_eq_false hc] at eg
      have H := hide (And.intro hc (And.intro hrq (And.intro hor h)))
      clear hc hrq hor h
      rcases Nat.eq_zero_or_pos q with hq0 | hq0
      · subst hq0
        have HQ : Hid (r = r0 ∧ r < 4845873199050653696) := hide (by have := unhide H; omega)
        clear H hq
        go_wp2_with fail
        clear eg
        go_loop [6, 7] (fun f p => ∃ s t : Nat, f = .float .f64 s ∧ p = .int .i64 (-(t : Int)) ∧ t ≤ 1074 ∧ s < 4845873199050653696 ∧ Hid (Fl.mg s = Fl.mg r0 * 2 ^ t)) (fun _ p => (intOf p + 1074).toNat)
        case atStart => exact ⟨r, 0, rfl, rfl, by omega, (unhide HQ).2, hide (by rw [(unhide HQ).1, Nat.pow_zero, Nat.mul_one])⟩
        case round =>
          obtain ⟨s, t, rfl, rfl, ht, hs, HM⟩ := hrel
          have el := lss_c52 s (by omega)
          by_cases hc : s < 4841369599423283200
          · rw [decide_eq_true hc] at el
            by_cases ht' : t < 1074
            · obtain ⟨s', e1, e2, e3⟩ := Fl.dbl s hc
              have ed := run_float_arith (P := Try.prog) w3 .mul 23 .f64 s 4611686018427387904 s' e1
              have H2 : Hid (Fl.mg s' = Fl.mg r0 * 2 ^ (t + 1)) := hide (by rw [e2, unhide HM, Nat.pow_succ, Nat.mul_comm 2, Nat.mul_assoc])
              have H3 := hide (And.intro e3 hs)
              clear e1 e2 e3 hs
              go_wp2
              go_round
              case rel => exact ⟨s', t + 1, rfl, by go_num, by omega, (unhide H3).1, H2⟩
              case measure => simp [intOf]; omega
            · have ht2 : t = 1074 := by omega
              have HE := hide (Fl.end_two r0 s t (unhide HM) (by rw [Fl.kU_eq]; exact ht) hs (Or.inr ht2))
              have ew := run_convert_float_int (P := Try.prog) w3 23 22 .f64 .u64 s _ und23 Try.underlying22 (Fl.whole_part s hs)
              rw [(unhide HE).1] at ew
              have HT := hide ht2
              have et : (-(t : Int) > -1074) = False := by rw [eq_iff_iff, iff_false]; omega
              clear ht2 ht ht'
              go_wp2
              go_ret3
              exact ⟨ret3 (by rw [unhide HR]) (by have h1 := (unhide HE).2; rw [unhide HR]; exact h1), rfl⟩
          · rw [decide_eq_false hc] at el
            have HE := hide (Fl.end_two r0 s t (unhide HM) (by rw [Fl.kU_eq]; exact ht) hs (Or.inl (by omega)))
            have ew := run_convert_float_int (P := Try.prog) w3 23 22 .f64 .u64 s _ und23 Try.underlying22 (Fl.whole_part s hs)
            rw [(unhide HE).1] at ew
            clear hc hs
            go_wp2
            go_ret3
            exact ⟨ret3 (by rw [unhide HR]) (by have h1 := (unhide HE).2; rw [unhide HR]; exact h1), rfl⟩
      · have hx : 4841369599423283200 ≤ r ∧ r < 4845873199050653696 := by have := unhide H; omega
        have HE := hide (Fl.end_one r0 r q (unhide H).2.1 hq0 hx.1 hx.2)
        have ew := run_convert_float_int (P := Try.prog) w3 23 22 .f64 .u64 r _ und23 Try.underlying22 (Fl.whole_part r hx.2)
        rw [(unhide HE).1] at ew
        have el := lss_c52 r hr
        rw [decide_eq_false (by omega)] at el
        clear hx hr
        go_wp2_with fail
        clear eg
        refine wp_loop_rounds 1 ?_
        rw [rounds_succ]
        go_wp2
        go_ret3
        exact ⟨ret3 (by rw [unhide HR]) (by have h1 := (unhide HE).2; rw [unhide HR]; exact h1), rfl⟩
end Go.Proofs.Ytnlhgehibbgmoaa
