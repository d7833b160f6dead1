/- The walk of the law FloatChain: it answers true. -/
import Derived.Test.YtnlhgehibbgmoaaLfM
namespace Go.Proofs.Ytnlhgehibbgmoaa
open Go.RowKit

set_option maxRecDepth 100000 in
set_option maxHeartbeats 4000000 in
theorem law_chain (x y z : Nat) (w : World) (hx : x < 18446744073709551616) (hy : y < 18446744073709551616) (hz : z < 18446744073709551616) :
    Calls Try.prog 8 #[.agg #[.int .u64 (x : Int), .int .u64 (y : Int), .int .u64 (z : Int)]] w fun e w' => e = .returned (.bool true) ∧ Below w.heap.size w w' := by
  have H := hide (And.intro hx (And.intro hy hz))
  have f1 := from_bits x
  have f2 := from_bits y
  have f3 := from_bits z
  clear hx hy hz
  obtain ⟨o, ho⟩ : ∃ o, orF x y = o := ⟨_, rfl⟩
  obtain ⟨p, hp⟩ : ∃ p, orF y z = p := ⟨_, rfl⟩
  obtain ⟨q, hq⟩ : ∃ q, orF x z = q := ⟨_, rfl⟩
  have ho2 : orF y x = -o := by rw [orF_turn, ho]
  have hoo := orF_range x y
  rw [ho] at hoo
  have ht : o ≤ 0 → p ≤ 0 → q ≤ 0 := by rw [← ho, ← hp, ← hq]; exact orF_trans x y z
  have hm : o ≤ 0 → frE x = 0 → frE y = 0 → frN x ≤ frN y := by rw [← ho]; exact fr_mono x y
  obtain ⟨N1, hN1⟩ : ∃ N, frN x = N := ⟨_, rfl⟩
  obtain ⟨E1, hE1⟩ : ∃ N, frE x = N := ⟨_, rfl⟩
  obtain ⟨N2, hN2⟩ : ∃ N, frN y = N := ⟨_, rfl⟩
  obtain ⟨E2, hE2⟩ : ∃ N, frE y = N := ⟨_, rfl⟩
  rw [hN1, hE1, hN2, hE2] at hm
  have HO := hide (And.intro ho (And.intro ho2 (And.intro (orF_self x) (And.intro hp hq))))
  have HE := hide (And.intro hN1 (And.intro hE1 (And.intro hN2 hE2)))
  have HT := hide ht
  have HM := hide hm
  clear ho hp hq ho2 ht hm hN1 hE1 hN2 hE2
  go_enter Try.func8, Try.ntmps8
  go_wp2_with fail
  go_region
  have b0 : Below w.heap.size w (w.alloc (Obj.cells #[Value.int IntKind.u64 (x : Int), Value.int IntKind.u64 (y : Int), Value.int IntKind.u64 (z : Int)] 47)).drew := (below_alloc _ _).drew
  obtain ⟨w0, hw0⟩ : ∃ w0, (w.alloc (Obj.cells #[Value.int IntKind.u64 (x : Int), Value.int IntKind.u64 (y : Int), Value.int IntKind.u64 (z : Int)] 47)).drew = w0 := ⟨_, rfl⟩
  rw [hw0] at b0 ⊢
  clear hw0 f1 f2 f3
  go_wp2_with fail
  refine (wakes_any _).mono ?_
  rintro e w1 ⟨rfl, b1⟩
  have b11 := below_then b0 b1
  clear b0 b1
  go_wp2_with fail
  refine (order_float x y _ (unhide H).1 (unhide H).2.1).mono ?_
  rintro e w2 ⟨rfl, rfl⟩
  rw [(unhide HO).1]
  go_wp2_with fail
  refine (order_float y x _ (unhide H).2.1 (unhide H).1).mono ?_
  rintro e w2 ⟨rfl, rfl⟩
  rw [(unhide HO).2.1]
  have on : (o != o) = false := by simp
  go_wp2_with fail
  refine (order_float x x _ (unhide H).1 (unhide H).1).mono ?_
  rintro e w2 ⟨rfl, rfl⟩
  rw [(unhide HO).2.2.1]
  go_wp2_with fail
  refine (order_float x y _ (unhide H).1 (unhide H).2.1).mono ?_
  rintro e w2 ⟨rfl, rfl⟩
  rw [(unhide HO).1]
  clear on
  by_cases o0 : o ≤ 0
  · go_wp2_with fail
    refine (order_float y z _ (unhide H).2.1 (unhide H).2.2).mono ?_
    rintro e w2 ⟨rfl, rfl⟩
    rw [(unhide HO).2.2.2.1]
    by_cases p0 : p ≤ 0
    · have q0 : q ≤ 0 := unhide HT o0 p0
      have q0' : decide (0 < q) = false := decide_eq_false (by omega)
      go_wp2_with fail
      refine (order_float x z _ (unhide H).1 (unhide H).2.2).mono ?_
      rintro e w2 ⟨rfl, rfl⟩
      rw [(unhide HO).2.2.2.2]
      go_wp2_with fail
      refine (from_any x _ (unhide H).1).mono ?_
      rintro e w3 ⟨rfl, b3⟩
      rw [(unhide HE).1, (unhide HE).2.1]
      have b13 := below_then b11 b3
      clear b11 b3
      go_wp2_with fail
      refine (from_any y _ (unhide H).2.1).mono ?_
      rintro e w4 ⟨rfl, b4⟩
      rw [(unhide HE).2.2.1, (unhide HE).2.2.2]
      have b14 := below_then b13 b4
      clear b13 b4
      cases e1 : (E1 != 0)
      · cases e2 : (E2 != 0)
        · go_wp2_with fail
          refine (order_float x y _ (unhide H).1 (unhide H).2.1).mono ?_
          rintro e w2 ⟨rfl, rfl⟩
          rw [(unhide HO).1]
          by_cases oo : o ≤ 0
          · have oo' : decide (0 < o) = false := decide_eq_false (by omega)
            have nn : N1 ≤ N2 := unhide HM oo (by rw [bne_eq_false_iff_eq] at e1; exact e1) (by rw [bne_eq_false_iff_eq] at e2; exact e2)
            go_wp2
            go_ret
            exact ⟨rfl, b14⟩
          · have oo' : 0 < o := by omega
            go_wp2
            go_ret
            exact ⟨rfl, b14⟩
        · go_wp2
          go_ret
          exact ⟨rfl, b14⟩
      · go_wp2
        go_ret
        exact ⟨rfl, b14⟩
    · have p0' : decide (p ≤ 0) = false := decide_eq_false p0
      go_wp2_with fail
      refine (from_any x _ (unhide H).1).mono ?_
      rintro e w3 ⟨rfl, b3⟩
      rw [(unhide HE).1, (unhide HE).2.1]
      have b13 := below_then b11 b3
      clear b11 b3
      go_wp2_with fail
      refine (from_any y _ (unhide H).2.1).mono ?_
      rintro e w4 ⟨rfl, b4⟩
      rw [(unhide HE).2.2.1, (unhide HE).2.2.2]
      have b14 := below_then b13 b4
      clear b13 b4
      cases e1 : (E1 != 0)
      · cases e2 : (E2 != 0)
        · go_wp2_with fail
          refine (order_float x y _ (unhide H).1 (unhide H).2.1).mono ?_
          rintro e w2 ⟨rfl, rfl⟩
          rw [(unhide HO).1]
          by_cases oo : o ≤ 0
          · have oo' : decide (0 < o) = false := decide_eq_false (by omega)
            have nn : N1 ≤ N2 := unhide HM oo (by rw [bne_eq_false_iff_eq] at e1; exact e1) (by rw [bne_eq_false_iff_eq] at e2; exact e2)
            go_wp2
            go_ret
            exact ⟨rfl, b14⟩
          · have oo' : 0 < o := by omega
            go_wp2
            go_ret
            exact ⟨rfl, b14⟩
        · go_wp2
          go_ret
          exact ⟨rfl, b14⟩
      · go_wp2
        go_ret
        exact ⟨rfl, b14⟩
  · have o0' : decide (o ≤ 0) = false := decide_eq_false o0
    go_wp2_with fail
    refine (from_any x _ (unhide H).1).mono ?_
    rintro e w3 ⟨rfl, b3⟩
    rw [(unhide HE).1, (unhide HE).2.1]
    have b13 := below_then b11 b3
    clear b11 b3
    go_wp2_with fail
    refine (from_any y _ (unhide H).2.1).mono ?_
    rintro e w4 ⟨rfl, b4⟩
    rw [(unhide HE).2.2.1, (unhide HE).2.2.2]
    have b14 := below_then b13 b4
    clear b13 b4
    cases e1 : (E1 != 0)
    · cases e2 : (E2 != 0)
      · go_wp2_with fail
        refine (order_float x y _ (unhide H).1 (unhide H).2.1).mono ?_
        rintro e w2 ⟨rfl, rfl⟩
        rw [(unhide HO).1]
        by_cases oo : o ≤ 0
        · have oo' : decide (0 < o) = false := decide_eq_false (by omega)
          have nn : N1 ≤ N2 := unhide HM oo (by rw [bne_eq_false_iff_eq] at e1; exact e1) (by rw [bne_eq_false_iff_eq] at e2; exact e2)
          go_wp2
          go_ret
          exact ⟨rfl, b14⟩
        · have oo' : 0 < o := by omega
          go_wp2
          go_ret
          exact ⟨rfl, b14⟩
      · go_wp2
        go_ret
        exact ⟨rfl, b14⟩
    · go_wp2
      go_ret
      exact ⟨rfl, b14⟩
end Go.Proofs.Ytnlhgehibbgmoaa
