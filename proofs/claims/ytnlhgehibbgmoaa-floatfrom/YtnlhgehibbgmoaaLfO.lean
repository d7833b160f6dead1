/- The walks of the laws FloatOrder and FloatClasses: they answer true. -/
import Derived.Test.YtnlhgehibbgmoaaRgB
namespace Go.Proofs.Ytnlhgehibbgmoaa
open Go.RowKit

theorem from_bits (b : Nat) (w : World) : (callFunc 10 #[.int .u64 (b : Int)]).run Try.prog w = .ok (.value (.float .f64 b)) w := by
  rw [call_from, Int.toNat_natCast]

set_option maxHeartbeats 1000000 in
theorem law_order (x y : Nat) (w : World) (hx : x < 18446744073709551616) (hy : y < 18446744073709551616) :
    Calls Try.prog 6 #[.int .u64 (x : Int), .int .u64 (y : Int)] w fun e w' => e = .returned (.bool true) ∧ Below w.heap.size w w' := by
  have H := hide (And.intro hx hy)
  clear hx hy
  go_enter Try.func6, Try.ntmps6
  go_wp2_with fail
  refine (wakes_any _).mono ?_
  rintro e w1 ⟨rfl, b1⟩
  have f1 := from_bits x w1
  have f2 := from_bits y w1
  go_wp2_with fail
  refine (order_float x y _ (unhide H).1 (unhide H).2).mono ?_
  rintro e w2 ⟨rfl, rfl⟩
  go_wp2_with fail
  refine (order_ref x y _ (unhide H).1 (unhide H).2).mono ?_
  rintro e w2 ⟨rfl, rfl⟩
  go_wp2
  go_ret
  exact ⟨by simp, b1⟩

set_option maxHeartbeats 2000000 in
theorem law_classes (b : Nat) (w : World) (hb : b < 18446744073709551616) :
    Calls Try.prog 3 #[.int .u64 (b : Int)] w fun e w' => e = .returned (.bool true) ∧ Below w.heap.size w w' := by
  have H := hide hb
  have f1 := from_bits b w
  by_cases h : 9218868437227405312 ≤ Fl.rng b
  · have HP := hide (parts_bad b w hb h)
    have HR := hide (parts_ref b w hb)
    rw [if_pos h, if_pos h] at HR
    obtain ⟨k, hk⟩ : ∃ k, clsV b = k := ⟨_, rfl⟩
    have HK := hide hk
    clear hb h hk
    go_enter Try.func3, Try.ntmps3
    go_wp2_with fail
    refine (unhide HP).mono ?_
    rintro e w2 ⟨rfl, rfl⟩
    go_wp2_with fail
    refine (unhide HR).mono ?_
    rintro e w2 ⟨rfl, rfl⟩
    go_wp2_with fail
    refine (of_any b _ (unhide H)).mono ?_
    rintro e w2 ⟨rfl, rfl⟩
    rw [unhide HK]
    clear f1
    cases hk0 : (k == 0)
    · go_wp2_with fail
      refine (wakes_any _).mono ?_
      rintro e w3 ⟨rfl, b3⟩
      go_wp2_with fail
      refine (of_any b _ (unhide H)).mono ?_
      rintro e w2 ⟨rfl, rfl⟩
      rw [unhide HK]
      go_wp2_with fail
      refine (class_ref b _ (unhide H)).mono ?_
      rintro e w2 ⟨rfl, rfl⟩
      rw [unhide HK]
      go_wp2
      go_ret
      exact ⟨by simp, b3⟩
    · go_wp2_with fail
      refine (wakes_any _).mono ?_
      rintro e w3 ⟨rfl, b3⟩
      go_wp2_with fail
      refine (class_ref b _ (unhide H)).mono ?_
      rintro e w2 ⟨rfl, rfl⟩
      rw [unhide HK]
      go_wp2
      go_ret
      exact ⟨by simp, b3⟩
  · obtain ⟨k, hk, k0, k1, k6⟩ := cls_fin b (by omega)
    have HP := hide (parts_fin b w hb (by omega))
    have HR := hide (parts_ref b w hb)
    rw [if_neg h, if_neg h] at HR
    have HK := hide hk
    clear hb h hk k1 k6
    go_enter Try.func3, Try.ntmps3
    go_wp2_with fail
    refine (unhide HP).mono ?_
    rintro e w2 ⟨rfl, rfl⟩
    go_wp2_with fail
    refine (unhide HR).mono ?_
    rintro e w2 ⟨rfl, rfl⟩
    go_wp2_with fail
    refine (of_any b _ (unhide H)).mono ?_
    rintro e w2 ⟨rfl, rfl⟩
    rw [unhide HK]
    clear f1
    go_wp2_with fail
    refine (wakes_any _).mono ?_
    rintro e w3 ⟨rfl, b3⟩
    go_wp2_with fail
    refine (of_any b _ (unhide H)).mono ?_
    rintro e w2 ⟨rfl, rfl⟩
    rw [unhide HK]
    go_wp2_with fail
    refine (class_ref b _ (unhide H)).mono ?_
    rintro e w2 ⟨rfl, rfl⟩
    rw [unhide HK]
    go_wp2
    go_ret
    exact ⟨by simp, b3⟩
end Go.Proofs.Ytnlhgehibbgmoaa
