/- The contract of Order. -/
import Derived.Test.YtnlhgehibbgmoaaFlW
namespace Go.Proofs.Ytnlhgehibbgmoaa
open Go.RowKit

def sig (a b : Int) : Int := if a < b then -1 else if b < a then 1 else 0
def rkV (k : Int) : Int := if k = 0 then 7 else k
def orF (x y : Nat) : Int :=
  if rkV (clsV x) = rkV (clsV y) then (if 9218868437227405312 < Fl.rng x then 0 else sig (Fl.kv x) (Fl.kv y)) else sig (rkV (clsV x)) (rkV (clsV y))

set_option maxHeartbeats 400000 in
theorem rank_any (k : Int) (w : World) :
    Calls Try.prog 40 #[.int .i64 k] w fun e w' => e = .returned (.int .i64 (rkV k)) ∧ w' = w := by
  unfold rkV
  by_cases h : k = 0
  · rw [if_pos h]
    have hb : (k == 0) = true := by rw [beq_iff_eq]; exact h
    clear h
    go_enter Try.func40, Try.ntmps40
    go_wp2
    go_ret
    exact ⟨rfl, rfl⟩
  · rw [if_neg h]
    have hb : (k == 0) = false := by rw [beq_eq_false_iff_ne]; exact h
    clear h
    go_enter Try.func40, Try.ntmps40
    go_wp2
    go_ret
    exact ⟨rfl, rfl⟩

set_option maxHeartbeats 400000 in
theorem isnan_int (a : Int) (w : World) :
    Calls Try.prog 51 #[.int .i64 a] w fun e w' => e = .returned (.bool false) ∧ w' = w := by
  go_enter Try.func51, Try.ntmps51
  go_wp2
  go_ret
  exact ⟨by simp, rfl⟩
set_option maxHeartbeats 400000 in
theorem isnan_float (b : Nat) (w : World) :
    Calls Try.prog 52 #[.float .f64 b] w fun e w' => e = .returned (.bool (decide (9218868437227405312 < Fl.rng b))) ∧ w' = w := by
  by_cases h : 9218868437227405312 < Fl.rng b
  · rw [decide_eq_true h]
    have e1 := self_ne b h
    clear h
    go_enter Try.func52, Try.ntmps52
    go_wp2
    go_ret
    exact ⟨rfl, rfl⟩
  · rw [decide_eq_false h]
    have e1 := self_eq b (by omega)
    clear h
    go_enter Try.func52, Try.ntmps52
    go_wp2
    go_ret
    exact ⟨rfl, rfl⟩

set_option maxHeartbeats 400000 in
theorem compare_int (a b : Int) (w : World) :
    Calls Try.prog 41 #[.int .i64 a, .int .i64 b] w fun e w' => e = .returned (.int .i64 (sig a b)) ∧ w' = w := by
  unfold sig
  rcases Int.lt_trichotomy a b with h | h | h
  · rw [if_pos h]
    go_enter Try.func41, Try.ntmps41
    go_wp2_with fail
    refine (isnan_int _ _).mono ?_
    rintro e w1 ⟨rfl, rfl⟩
    go_wp2_with fail
    refine (isnan_int _ _).mono ?_
    rintro e w1 ⟨rfl, rfl⟩
    go_wp2
    go_ret
    exact ⟨rfl, rfl⟩
  · subst h
    rw [if_neg (by omega), if_neg (by omega)]
    go_enter Try.func41, Try.ntmps41
    go_wp2_with fail
    refine (isnan_int _ _).mono ?_
    rintro e w1 ⟨rfl, rfl⟩
    go_wp2_with fail
    refine (isnan_int _ _).mono ?_
    rintro e w1 ⟨rfl, rfl⟩
    go_wp2
    go_ret
    exact ⟨rfl, rfl⟩
  · rw [if_neg (by omega), if_pos h]
    have h' : ¬ a < b := by omega
    go_enter Try.func41, Try.ntmps41
    go_wp2_with fail
    refine (isnan_int _ _).mono ?_
    rintro e w1 ⟨rfl, rfl⟩
    go_wp2_with fail
    refine (isnan_int _ _).mono ?_
    rintro e w1 ⟨rfl, rfl⟩
    go_wp2
    go_ret
    exact ⟨rfl, rfl⟩

set_option maxHeartbeats 400000 in
theorem compare_nan (x y : Nat) (w : World) (hx : 9218868437227405312 < Fl.rng x) (hy : 9218868437227405312 < Fl.rng y) :
    Calls Try.prog 42 #[.float .f64 x, .float .f64 y] w fun e w' => e = .returned (.int .i64 0) ∧ w' = w := by
  have dx := decide_eq_true hx
  have dy := decide_eq_true hy
  have HX := hide dx
  have HY := hide dy
  clear hx hy dx dy
  go_enter Try.func42, Try.ntmps42
  go_wp2_with fail
  refine (isnan_float _ _).mono ?_
  rintro e w1 ⟨rfl, rfl⟩
  rw [unhide HX]
  go_wp2_with fail
  refine (isnan_float _ _).mono ?_
  rintro e w1 ⟨rfl, rfl⟩
  rw [unhide HY]
  go_wp2
  go_ret
  exact ⟨rfl, rfl⟩

set_option maxHeartbeats 400000 in
theorem compare_num (x y : Nat) (w : World) (hx : Fl.rng x ≤ 9218868437227405312) (hy : Fl.rng y ≤ 9218868437227405312) :
    Calls Try.prog 42 #[.float .f64 x, .float .f64 y] w fun e w' => e = .returned (.int .i64 (sig (Fl.kv x) (Fl.kv y))) ∧ w' = w := by
  have HX := hide (decide_eq_false (by omega : ¬ 9218868437227405312 < Fl.rng x))
  have HY := hide (decide_eq_false (by omega : ¬ 9218868437227405312 < Fl.rng y))
  have k1 := Fl.key_lt x y hx hy
  have k2 := Fl.key_gt x y hx hy
  rw [f64_format'] at k1 k2
  unfold sig
  rcases Int.lt_trichotomy (Fl.kv x) (Fl.kv y) with h | h | h
  · rw [if_pos h]
    rw [decide_eq_true h] at k1
    clear hx hy k2 h
    go_enter Try.func42, Try.ntmps42
    go_wp2_with fail
    refine (isnan_float _ _).mono ?_
    rintro e w1 ⟨rfl, rfl⟩
    rw [unhide HX]
    go_wp2_with fail
    refine (isnan_float _ _).mono ?_
    rintro e w1 ⟨rfl, rfl⟩
    rw [unhide HY]
    go_wp2
    go_ret
    exact ⟨rfl, rfl⟩
  · rw [if_neg (by omega), if_neg (by omega)]
    rw [decide_eq_false (by omega)] at k1 k2
    clear hx hy h
    go_enter Try.func42, Try.ntmps42
    go_wp2_with fail
    refine (isnan_float _ _).mono ?_
    rintro e w1 ⟨rfl, rfl⟩
    rw [unhide HX]
    go_wp2_with fail
    refine (isnan_float _ _).mono ?_
    rintro e w1 ⟨rfl, rfl⟩
    rw [unhide HY]
    go_wp2
    go_ret
    exact ⟨rfl, rfl⟩
  · rw [if_neg (by omega), if_pos h]
    rw [decide_eq_false (by omega)] at k1
    rw [decide_eq_true h] at k2
    clear hx hy h
    go_enter Try.func42, Try.ntmps42
    go_wp2_with fail
    refine (isnan_float _ _).mono ?_
    rintro e w1 ⟨rfl, rfl⟩
    rw [unhide HX]
    go_wp2_with fail
    refine (isnan_float _ _).mono ?_
    rintro e w1 ⟨rfl, rfl⟩
    rw [unhide HY]
    go_wp2
    go_ret
    exact ⟨rfl, rfl⟩

theorem rk_seven (x : Nat) : rkV (clsV x) = 7 ↔ 9218868437227405312 < Fl.rng x := by
  rcases cls_cases x with ⟨h, e⟩ | ⟨h, e⟩ | h
  · rw [e]; exact ⟨fun _ => h, fun _ => rfl⟩
  · constructor
    · intro h7; rcases e with e | e <;> rw [e] at h7 <;> cases h7
    · intro h7; omega
  · constructor
    · intro h7
      obtain ⟨k, e, _, _, _⟩ := cls_fin x h
      unfold clsV at h7
      rw [if_neg (by omega), if_neg (by omega)] at h7
      split at h7 <;> split at h7 <;> cases h7
    · intro h7; omega

set_option maxHeartbeats 1000000 in
theorem order_float (x y : Nat) (w : World) (hx : x < 18446744073709551616) (hy : y < 18446744073709551616) :
    Calls Try.prog 21 #[.float .f64 x, .float .f64 y] w fun e w' => e = .returned (.int .i64 (orF x y)) ∧ w' = w := by
  have H := hide (And.intro hx hy)
  have r7x := rk_seven x
  have r7y := rk_seven y
  by_cases hr : rkV (clsV x) = rkV (clsV y)
  · have hc : ∀ w, Calls Try.prog 42 #[.float .f64 x, .float .f64 y] w fun e w' => e = .returned (.int .i64 (orF x y)) ∧ w' = w := by
      intro w
      unfold orF
      rw [if_pos hr]
      by_cases h7 : 9218868437227405312 < Fl.rng x
      · rw [if_pos h7]
        exact compare_nan x y w h7 (r7y.1 (hr ▸ r7x.2 h7))
      · rw [if_neg h7]
        exact compare_num x y w (by omega) (by
          rcases Nat.lt_or_ge 9218868437227405312 (Fl.rng y) with h | h
          · exact absurd (r7x.1 (hr.trans (r7y.2 h))) h7
          · exact h)
    have HC := hide hc
    have hb : (rkV (clsV x) != rkV (clsV y)) = false := by rw [hr]; simp
    obtain ⟨p, hp⟩ : ∃ p, rkV (clsV x) = p := ⟨_, rfl⟩
    obtain ⟨q, hq⟩ : ∃ q, rkV (clsV y) = q := ⟨_, rfl⟩
    rw [hp, hq] at hb
    have HPQ := hide (And.intro hp hq)
    clear hx hy r7x r7y hr hc hp hq
    go_enter Try.func21, Try.ntmps21
    go_wp2_with fail
    refine (of_any x _ (unhide H).1).mono ?_
    rintro e w1 ⟨rfl, rfl⟩
    go_wp2_with fail
    refine (rank_any _ _).mono ?_
    rintro e w1 ⟨rfl, rfl⟩
    go_wp2_with fail
    refine (of_any y _ (unhide H).2).mono ?_
    rintro e w1 ⟨rfl, rfl⟩
    go_wp2_with fail
    refine (rank_any _ _).mono ?_
    rintro e w1 ⟨rfl, rfl⟩
    rw [(unhide HPQ).1, (unhide HPQ).2]
    go_wp2_with fail
    refine (unhide HC _).mono ?_
    rintro e w1 ⟨rfl, rfl⟩
    go_wp2
    go_ret
    exact ⟨rfl, rfl⟩
  · have hb : (rkV (clsV x) != rkV (clsV y)) = true := by rw [bne_iff_ne]; exact hr
    have ho : orF x y = sig (rkV (clsV x)) (rkV (clsV y)) := by unfold orF; rw [if_neg hr]
    rw [ho]
    obtain ⟨p, hp⟩ : ∃ p, rkV (clsV x) = p := ⟨_, rfl⟩
    obtain ⟨q, hq⟩ : ∃ q, rkV (clsV y) = q := ⟨_, rfl⟩
    rw [hp, hq] at hb
    rw [hp, hq]
    have HPQ := hide (And.intro hp hq)
    clear hx hy r7x r7y hr hp hq ho
    go_enter Try.func21, Try.ntmps21
    go_wp2_with fail
    refine (of_any x _ (unhide H).1).mono ?_
    rintro e w1 ⟨rfl, rfl⟩
    go_wp2_with fail
    refine (rank_any _ _).mono ?_
    rintro e w1 ⟨rfl, rfl⟩
    go_wp2_with fail
    refine (of_any y _ (unhide H).2).mono ?_
    rintro e w1 ⟨rfl, rfl⟩
    go_wp2_with fail
    refine (rank_any _ _).mono ?_
    rintro e w1 ⟨rfl, rfl⟩
    rw [(unhide HPQ).1, (unhide HPQ).2]
    go_wp2_with fail
    refine (compare_int _ _ _).mono ?_
    rintro e w1 ⟨rfl, rfl⟩
    go_wp2
    go_ret
    exact ⟨rfl, rfl⟩
end Go.Proofs.Ytnlhgehibbgmoaa
