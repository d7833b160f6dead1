/- The walk of the law FloatSqrt: it answers true. -/
import Derived.Test.YtnlhgehibbgmoaaRsI
import Derived.Test.YtnlhgehibbgmoaaFlW
namespace Go.Proofs.Ytnlhgehibbgmoaa
open Go.RowKit

theorem root_sq (a r : Nat) (h : RootIn (a * 10000) 39 r) : sqR (a : Int) (r : Int) = true ∧ (r : Int) ≤ 1000000000000 := by
  obtain ⟨h1, h2, h3⟩ := h
  rw [Nat.sub_self, Nat.pow_zero] at h1
  rw [Nat.sub_self, Nat.pow_zero, Nat.add_sub_cancel] at h3
  refine ⟨?_, by omega⟩
  unfold sqR
  have e1 : ((r : Int) + 1) * r = (r : Int) * r + r := by rw [Int.add_mul, Int.one_mul]
  have g3 : (a : Int) * 10000 ≤ (r : Int) * r + r := by
    have h := Int.ofNat_le.2 h3
    rw [Int.natCast_mul, Int.natCast_mul, Int.natCast_add] at h
    rw [← e1]; exact h
  have e2 : (2 * (r : Int) + 1) * (2 * (r : Int) + 1) = 4 * ((r : Int) * r) + 4 * r + 1 := by
    rw [Int.add_mul, Int.mul_add, Int.one_mul, Int.mul_one, Int.mul_assoc, Int.mul_left_comm (r : Int) 2]; omega
  have e3 : (2 * (r : Int) - 1) * (2 * (r : Int) - 1) = 4 * ((r : Int) * r) - 4 * r + 1 := by
    rw [Int.sub_mul, Int.mul_sub, Int.one_mul, Int.mul_one, Int.mul_assoc, Int.mul_left_comm (r : Int) 2]; omega
  rw [decide_eq_true (by rw [e2]; omega), Bool.true_and]
  rcases h2 with h2 | h2
  · rw [decide_eq_true (by omega)]; rfl
  · rcases Nat.eq_zero_or_pos r with h0 | h0
    · rw [decide_eq_true (by omega)]; rfl
    · have g2 : (r : Int) * r - r < (a : Int) * 10000 := by
        obtain ⟨k, rfl⟩ : ∃ k, r = k + 1 := ⟨r - 1, by omega⟩
        rw [Nat.add_sub_cancel] at h2
        have h4 : ((k + 1 : Nat) : Int) * (k : Int) < (a : Int) * 10000 := by
          have h := Int.ofNat_lt.2 h2
          rw [Int.natCast_mul, Int.natCast_mul] at h
          exact h
        have h5 : ((k + 1 : Nat) : Int) * ((k + 1 : Nat) : Int) - ((k + 1 : Nat) : Int) = ((k + 1 : Nat) : Int) * (k : Int) := by
          rw [show (((k + 1 : Nat) : Int)) = (k : Int) + 1 by omega, Int.mul_add, Int.mul_one]; omega
        rw [h5]; exact h4
      rw [decide_eq_true (by rw [e3]; omega : (2 * (r : Int) - 1) * (2 * (r : Int) - 1) < 40000 * (a : Int)), Bool.or_true]

set_option maxRecDepth 100000 in
set_option maxHeartbeats 4000000 in
theorem law_sqrt (a : Int) (w : World) :
    Calls Try.prog 5 #[.int .i64 a] w fun e w' => e = .returned (.bool true) ∧ Below w.heap.size w w' := by
  by_cases hb : goodB a = false ∨ a < 0
  · have HB := hide hb
    cases hg : goodB a
    · have HG := hide hg
      clear hb hg
      go_enter Try.func5, Try.ntmps5
      go_wp2_with fail
      refine (sqrt_bad a _ (unhide HB)).mono ?_
      rintro e w1 ⟨rfl, b1⟩
      go_wp2_with fail
      refine (good_ref a _).mono ?_
      rintro e w2 ⟨rfl, rfl⟩
      rw [unhide HG]
      go_wp2_with fail
      refine (wakes_any _).mono ?_
      rintro e w3 ⟨rfl, b3⟩
      go_wp2
      go_ret
      exact ⟨rfl, below_then b1 b3⟩
    · have HG := hide hg
      have hn : a < 0 := by
        rcases hb with h | h
        · rw [hg] at h; cases h
        · exact h
      clear hb hg
      go_enter Try.func5, Try.ntmps5
      go_wp2_with fail
      refine (sqrt_bad a _ (unhide HB)).mono ?_
      rintro e w1 ⟨rfl, b1⟩
      go_wp2_with fail
      refine (good_ref a _).mono ?_
      rintro e w2 ⟨rfl, rfl⟩
      rw [unhide HG]
      go_wp2_with fail
      refine (wakes_any _).mono ?_
      rintro e w3 ⟨rfl, b3⟩
      go_wp2
      go_ret
      exact ⟨rfl, below_then b1 b3⟩
  · have hg : goodB a = true := by
      cases h : goodB a
      · exact absurd (Or.inl h) hb
      · rfl
    have h0 : 0 ≤ a := by
      rcases Int.lt_or_le a 0 with h | h
      · exact absurd (Or.inr h) hb
      · exact h
    have h9 := ((goodB_iff a).1 hg).2
    have HG := hide hg
    clear hb hg
    obtain ⟨n, rfl⟩ := Int.eq_ofNat_of_zero_le h0
    go_enter Try.func5, Try.ntmps5
    go_wp2_with fail
    refine (sqrt_good n _ (by omega)).mono ?_
    rintro e w1 ⟨⟨r, rfl, hr⟩, b1⟩
    have HR := hide (root_sq n r hr)
    clear hr
    go_wp2_with fail
    refine (good_ref (n : Int) _).mono ?_
    rintro e w2 ⟨rfl, rfl⟩
    rw [unhide HG]
    go_wp2_with fail
    refine (wakes_any _).mono ?_
    rintro e w3 ⟨rfl, b3⟩
    have b13 := below_then b1 b3
    clear b1 b3
    go_wp2_with fail
    refine (sqrt_ref (n : Int) (r : Int) _ (by omega) h9 (by omega) (unhide HR).2).mono ?_
    rintro e w4 ⟨rfl, b4⟩
    rw [(unhide HR).1]
    go_wp2
    go_ret
    exact ⟨rfl, below_then b13 b4⟩
end Go.Proofs.Ytnlhgehibbgmoaa
