/- What the laws of layer 2 ask first: 'wakes' answers true. -/
import Derived.Test.YtnlhgehibbgmoaaFlR
import Derived.Test.YtnlhgehibbgmoaaFlH
namespace Go.Proofs.Ytnlhgehibbgmoaa
open Go.RowKit

theorem w_from : frN 4591870180066957722 = 1000 ∧ frE 4591870180066957722 = 0 := by decide +kernel
theorem w_nan : frE 9221120237041090561 = 4 := by decide +kernel
theorem w_of : clsV 13826050856027422720 = 2 := by decide +kernel
theorem w_to : toV 15000 = 4609434218613702656 := by decide +kernel
theorem w_eq : (FloatKind.f64.format.order 4609434218613702656 4609434218613702656 == some .eq) = true := by decide +kernel
theorem w_root (r : Nat) (h : RootIn (20000 * 10000) 39 r) : r = 14142 := by
  obtain ⟨h1, h2, h3⟩ := h
  rw [Nat.sub_self, Nat.pow_zero, Nat.add_sub_cancel] at h3
  rcases Nat.lt_or_ge r 14142 with h | h
  · have : (r + 1) * r ≤ 14142 * 14141 := Nat.mul_le_mul (by omega) (by omega)
    omega
  · rcases Nat.lt_or_ge 14142 r with h' | h'
    · rcases h2 with h2 | h2
      · omega
      · have : 14143 * 14142 ≤ r * (r - 1) := Nat.mul_le_mul (by omega) (by omega)
        omega
    · omega

set_option maxRecDepth 100000 in
set_option maxHeartbeats 1000000 in
theorem wakes_any (w : World) :
    Calls Try.prog 14 #[] w fun e w' => e = .returned (.bool true) ∧ Below w.heap.size w w' := by
  go_enter Try.func14, Try.ntmps14
  go_wp2_with fail
  refine (from_any _ _ (by decide)).mono ?_
  rintro e w1 ⟨rfl, b1⟩
  rw [w_from.1, w_from.2]
  go_wp2_with fail
  refine (sqrt_good 20000 _ (by decide)).mono ?_
  rintro e w2 ⟨⟨r, rfl, hr⟩, b2⟩
  rw [w_root r hr]
  clear hr
  have b12 := below_then b1 b2
  go_wp2_with fail
  refine (nan_any _).mono ?_
  rintro e w3 ⟨rfl, rfl⟩
  go_wp2_with fail
  refine (from_any _ _ (by decide)).mono ?_
  rintro e w4 ⟨rfl, b4⟩
  rw [w_nan]
  have b14 := below_then b12 b4
  go_wp2_with fail
  refine (of_any _ _ (by decide)).mono ?_
  rintro e w5 ⟨rfl, rfl⟩
  rw [w_of]
  go_wp2_with fail
  refine (to_any _ _).mono ?_
  rintro e w6 ⟨rfl, b6⟩
  rw [w_to]
  have b16 := below_then b14 b6
  have we := w_eq
  go_wp2
  go_ret
  exact ⟨rfl, b16⟩
end Go.Proofs.Ytnlhgehibbgmoaa
