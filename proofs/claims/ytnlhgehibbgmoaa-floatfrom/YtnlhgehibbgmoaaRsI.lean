/- The contract of the reference's Sqrt. -/
import Derived.Test.YtnlhgehibbgmoaaRsH
import Derived.Test.YtnlhgehibbgmoaaFxB
namespace Go.Proofs.Ytnlhgehibbgmoaa
open Go.RowKit

/-- A literal of five digits. -/
theorem arr_five (w : World) (a b c d e : Int) (t : TypeId) : Arr (w.alloc (.cells #[.int .i64 a, .int .i64 b, .int .i64 c, .int .i64 d, .int .i64 e] t)) (.slice (some ⟨w.heap.size, 0, none⟩) 5 5) [a, b, c, d, e] := by
  refine Or.inr ⟨w.heap.size, 0, 5, rfl, Nat.le_refl _, by simp, ?_⟩
  intro i hi
  match i, hi with
  | 0, _ => simp [go_sem]
  | 1, _ => simp [go_sem]
  | 2, _ => simp [go_sem]
  | 3, _ => simp [go_sem]
  | 4, _ => simp [go_sem]

theorem dig_four : Dc.Dig [0, 0, 0, 0, 4] := by
  intro x hx
  simp at hx
  omega
theorem val_four : Dc.val [0, 0, 0, 0, 4] = 40000 := by decide
/-- Is a number the one nearest to the square root of another one? -/
def sqR (a x : Int) : Bool := decide (40000 * a < (2 * x + 1) * (2 * x + 1)) && (decide (x = 0) || decide ((2 * x - 1) * (2 * x - 1) < 40000 * a))

set_option maxRecDepth 100000 in
set_option maxHeartbeats 4000000 in
theorem sqrt_ref (a x : Int) (w : World) (ha0 : 0 ≤ a) (ha1 : a ≤ 9000000000000000000) (hx0 : 0 ≤ x) (hx1 : x ≤ 1000000000000) :
    Calls Try.prog 20 #[.int .i64 a, .int .i64 x] w fun e w' => e = .returned (.bool (sqR a x)) ∧ Below w.heap.size w w' := by
  obtain ⟨R, hR⟩ : ∃ R, sqR a x = R := ⟨_, rfl⟩
  rw [hR]
  have HR := hide hR
  clear hR
  go_enter Try.func20, Try.ntmps20
  go_wp2_with fail
  refine (digits_ref a _ (by omega) (by omega)).mono ?_
  rintro e w1 ⟨b1, v1, z1, rfl, r1, d1, c1, n1, l1, _⟩
  have H1 := hide (And.intro r1 (And.intro d1 (And.intro c1 n1)))
  clear r1 d1 c1 n1
  go_wp2_with fail
  refine (product_ref _ _ z1 [0, 0, 0, 0, 4] _ (by omega) (by simp) ((unhide H1).1.below (Nat.le_refl _) (below_alloc _ _)) (arr_five _ _ _ _ _ _ _) (unhide H1).2.1 dig_four).mono ?_
  rintro e w2 ⟨b2, v2, z2, rfl, r2, d2, c2, n2, l2, _⟩
  have e2 : Dc.val z2 = 40000 * a := by
    rw [n2, (unhide H1).2.2.2, val_four]; omega
  have l2' : z2.length ≤ 30 := by simp at l2; omega
  have H2 := hide (And.intro r2 (And.intro d2 (And.intro c2 e2)))
  have B2 : Below w.heap.size w w2 := (b1.alloc b1.size _).trans (b2.mono (by simp; have := b1.size; omega))
  clear r2 d2 c2 n2 e2 l2 b1 b2 l1
  go_wp2_with fail
  refine (digits_ref (2 * x + 1) _ (by omega) (by omega)).mono ?_
  rintro e w3 ⟨b3, v3, z3, rfl, r3, d3, c3, n3, l3, _⟩
  have B3 := below_next B2 b3
  have H3 := hide (And.intro r3 (And.intro d3 (And.intro c3 n3)))
  have A2 := hide ((unhide H2).1.below (Nat.le_refl _) b3)
  clear r3 d3 c3 n3 b3 B2
  go_wp2_with fail
  refine (product_ref _ _ z3 z3 _ (by omega) (by omega) (unhide H3).1 (unhide H3).1 (unhide H3).2.1 (unhide H3).2.1).mono ?_
  rintro e w4 ⟨b4, v4, z4, rfl, r4, d4, c4, n4, l4, _⟩
  have e4 : Dc.val z4 = (2 * x + 1) * (2 * x + 1) := by
    rw [n4, (unhide H3).2.2.2, show ((2 * x + 1).natAbs : Int) = 2 * x + 1 by omega]
  have B4 := below_next B3 b4
  have A2' := hide ((unhide A2).below (Nat.le_refl _) b4)
  have H4 := hide (And.intro r4 (And.intro d4 (And.intro c4 e4)))
  clear r4 d4 c4 n4 e4 b4 B3 A2
  go_wp2_with fail
  refine (below2_any _ _ z2 z4 _ (by omega) (by omega) (unhide A2') (unhide H4).1 (unhide H2).2.1 (unhide H4).2.1 (unhide H2).2.2.1 (unhide H4).2.2.1).mono ?_
  rintro e w5 ⟨rfl, b5⟩
  rw [(unhide H2).2.2.2, (unhide H4).2.2.2]
  have B5 := below_next B4 b5
  have A5 := hide ((unhide A2').below (Nat.le_refl _) b5)
  clear b5 B4 A2'
  by_cases hu : 40000 * a < (2 * x + 1) * (2 * x + 1)
  · rw [decide_eq_true hu]
    have HU := hide hu
    clear hu
    by_cases hx : x = 0
    · have E : Hid (R = true) := hide (by rw [← unhide HR]; unfold sqR; rw [decide_eq_true (unhide HU), decide_eq_true hx]; rfl)
      subst hx
      go_wp2
      go_ret
      exact ⟨by rw [unhide E]; rfl, B5⟩
    · have hxb : (x == 0) = false := by rw [beq_eq_false_iff_ne]; exact hx
      have HX := hide hx
      clear hx
      go_wp2_with fail
      refine (digits_ref (2 * x - 1) _ (by omega) (by omega)).mono ?_
      rintro e w6 ⟨b6, v6, z6, rfl, r6, d6, c6, n6, l6, _⟩
      have B6 := below_next B5 b6
      have A6 := hide ((unhide A5).below (Nat.le_refl _) b6)
      have H6 := hide (And.intro r6 (And.intro d6 (And.intro c6 n6)))
      clear r6 d6 c6 n6 b6 B5 A5
      go_wp2_with fail
      refine (product_ref _ _ z6 z6 _ (by omega) (by omega) (unhide H6).1 (unhide H6).1 (unhide H6).2.1 (unhide H6).2.1).mono ?_
      rintro e w7 ⟨b7, v7, z7, rfl, r7, d7, c7, n7, l7, _⟩
      have e7 : Dc.val z7 = (2 * x - 1) * (2 * x - 1) := by
        have := unhide HX
        rw [n7, (unhide H6).2.2.2, show ((2 * x - 1).natAbs : Int) = 2 * x - 1 by omega]
      have B7 := below_next B6 b7
      have A7 := hide ((unhide A6).below (Nat.le_refl _) b7)
      have H7 := hide (And.intro r7 (And.intro d7 (And.intro c7 e7)))
      clear r7 d7 c7 n7 e7 b7 B6 A6
      go_wp2_with fail
      refine (below2_any _ _ z7 z2 _ (by omega) (by omega) (unhide H7).1 (unhide A7) (unhide H7).2.1 (unhide H2).2.1 (unhide H7).2.2.1 (unhide H2).2.2.1).mono ?_
      rintro e w8 ⟨rfl, b8⟩
      have B8 := below_next B7 b8
      have E : Hid (decide (Dc.val z7 < Dc.val z2) = R) := hide (by
        rw [(unhide H2).2.2.2, (unhide H7).2.2.2, ← unhide HR]; unfold sqR; rw [decide_eq_true (unhide HU), decide_eq_false (unhide HX)]; rfl)
      rw [unhide E]
      clear b8 B7
      go_wp2
      go_ret
      exact ⟨rfl, B8⟩
  · rw [decide_eq_false hu]
    have E : Hid (R = false) := hide (by rw [← unhide HR]; unfold sqR; rw [decide_eq_false hu]; rfl)
    clear hu
    go_wp2
    go_ret
    exact ⟨by rw [unhide E]; rfl, B5⟩
end Go.Proofs.Ytnlhgehibbgmoaa
