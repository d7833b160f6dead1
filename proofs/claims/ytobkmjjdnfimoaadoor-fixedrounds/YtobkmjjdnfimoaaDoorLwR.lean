/- The walk of the law FixedRounds: it answers true. -/
import Derived.Test.YtobkmjjdnfimoaaDoorLwA
import Derived.Test.YtobkmjjdnfimoaaDoorRfK
namespace Go.Proofs.YtobkmjjdnfimoaaDoor
open Go.RowKit

set_option maxRecDepth 100000 in
set_option maxHeartbeats 4000000 in
theorem rounds_any (a n : Int) (w : World) (he : Env w) :
    Calls Tryd.prog 5 #[.int .i64 a, .int .i64 n] w fun e w' => e = .returned (.bool true) ∧ Below w.heap.size w w' := by
  have HE := hide he
  clear he
  go_enter Tryd.func5, Tryd.ntmps5
  go_wp2
  generalize wrap64 (bits BinOp.and IntKind.i64 n 31 - 16) = n2 at *
  have hc : ∀ k, k < 2 → ∃ m : Int, (w.alloc (.cells #[.int .i64 n, .int .i64 n2] 3)).cell? ⟨w.heap.size, k, none⟩ = some (.int .i64 m) := by
    intro k hk
    have : k = 0 ∨ k = 1 := by omega
    rcases this with rfl | rfl
    · exact ⟨n, by simp⟩
    · exact ⟨n2, by simp⟩
  have hb0 : Below w.heap.size w (w.alloc (.cells #[.int .i64 n, .int .i64 n2] 3)) := below_alloc _ _
  have hs0 : w.heap.size < (w.alloc (.cells #[.int .i64 n, .int .i64 n2] 3)).heap.size := by simp
  generalize w.alloc (.cells #[.int .i64 n, .int .i64 n2] 3) = w0 at *
  have HC := hide hc
  have HB0 := hide hb0
  clear hc hb0
  go_loopw [17] (fun t wr => ∃ k : Nat, t = .int .i64 (k : Int) ∧ k ≤ 2 ∧ Hid (Below w0.heap.size w0 wr)) (fun t _ => 2 - (intOf t).toNat)
  case atStart => exact ⟨0, rfl, by omega, hide (Below.refl _ _)⟩
  case round =>
    obtain ⟨k, rfl, hk, HB⟩ := hrel
    obtain ⟨wo, rfl⟩ : ∃ wo, wo = wr := ⟨_, rfl⟩
    by_cases hk2 : k < 2
    · obtain ⟨m, hm⟩ := unhide HC k hk2
      rw [← (unhide HB).cell (p := ⟨w.heap.size, k, none⟩) hs0] at hm
      go_wp2_with fail
      refine (round_any a m _).mono ?_
      rintro e w1 ⟨rfl, b1⟩
      go_wp2_with fail
      refine (round_ref a m _).mono ?_
      rintro e w2 ⟨rfl, b2⟩
      have HB2 := hide (below_next (unhide HB) (below_next b1 b2))
      generalize (roundR a m).1 = r1 at *
      generalize (roundR a m).2 = r2 at *
      clear b1 b2 hm
      go_wp2
      go_roundw
      case rel => exact ⟨k + 1, by go_num, by omega, HB2⟩
      case measure => simp [intOf]; omega
    · have b0 := below_next (unhide HB0) (unhide HB)
      go_wp2_with fail
      refine (wakes_any _ ((unhide HE).below b0)).mono ?_
      rintro e w3 ⟨rfl, b3⟩
      go_wp2_with fail
      refine (floor_any a _).mono ?_
      rintro e w4 ⟨rfl, b4⟩
      go_wp2_with fail
      refine (floor_ref a _).mono ?_
      rintro e w5 ⟨rfl, b5⟩
      generalize floorV a = fl at *
      go_wp2_with fail
      refine (whole_any a _).mono ?_
      rintro e w6 ⟨rfl, b6⟩
      go_wp2_with fail
      refine (whole_ref a _).mono ?_
      rintro e w7 ⟨rfl, b7⟩
      generalize wholeV a = wh at *
      go_wp2
      go_ret
      exact ⟨rfl, below_next (below_next (below_next (below_next (below_next b0 b3) b4) b5) b6) b7⟩
end Go.Proofs.YtobkmjjdnfimoaaDoor
