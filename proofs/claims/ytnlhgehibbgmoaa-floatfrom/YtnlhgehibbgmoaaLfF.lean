/- The walk of the law FloatFrom: it answers true. -/
import Derived.Test.YtnlhgehibbgmoaaRsL
import Derived.Test.YtnlhgehibbgmoaaLfO
namespace Go.Proofs.Ytnlhgehibbgmoaa
open Go.RowKit

theorem from_ref (b : Nat) (w : World) (hb : b < 18446744073709551616) :
    Calls Try.prog 17 #[.int .u64 (b : Int)] w fun e w' => e = .returned (.tuple #[.int .i64 (frN b), .int .i64 (frE b)]) ∧ Below w.heap.size w w' := by
  by_cases h : 9218868437227405312 ≤ Fl.rng b
  · exact fromref_bad b w hb h
  · exact fromref_fin b w hb (by omega)

set_option maxHeartbeats 1000000 in
theorem law_from (b : Nat) (w : World) (hb : b < 18446744073709551616) :
    Calls Try.prog 4 #[.int .u64 (b : Int)] w fun e w' => e = .returned (.bool true) ∧ Below w.heap.size w w' := by
  have H := hide hb
  have f1 := from_bits b w
  clear hb
  go_enter Try.func4, Try.ntmps4
  go_wp2_with fail
  refine (from_any b _ (unhide H)).mono ?_
  rintro e w1 ⟨rfl, b1⟩
  clear f1
  go_wp2_with fail
  refine (from_ref b _ (unhide H)).mono ?_
  rintro e w2 ⟨rfl, b2⟩
  have b12 := below_then b1 b2
  clear b1 b2
  go_wp2_with fail
  refine (wakes_any _).mono ?_
  rintro e w3 ⟨rfl, b3⟩
  go_wp2
  go_ret
  exact ⟨by simp, below_then b12 b3⟩
end Go.Proofs.Ytnlhgehibbgmoaa
