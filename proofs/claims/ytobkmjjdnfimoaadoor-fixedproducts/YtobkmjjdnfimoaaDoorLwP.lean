/- The walk of the law FixedProducts: it answers true. -/
import Derived.Test.YtobkmjjdnfimoaaDoorLwA
import Derived.Test.YtobkmjjdnfimoaaDoorRfI
namespace Go.Proofs.YtobkmjjdnfimoaaDoor
open Go.RowKit

set_option maxRecDepth 100000 in
set_option maxHeartbeats 4000000 in
theorem products_any (a b : Int) (w : World) (he : Env w) :
    Calls Tryd.prog 4 #[.int .i64 a, .int .i64 b] w fun e w' => e = .returned (.bool true) ∧ Below w.heap.size w w' := by
  have HE := hide he
  clear he
  go_enter Tryd.func4, Tryd.ntmps4
  go_wp2_with fail
  refine (mul_any a b _).mono ?_
  rintro e w1 ⟨rfl, b1⟩
  go_wp2_with fail
  refine (mul_ref a b _).mono ?_
  rintro e w2 ⟨rfl, b2⟩
  have b12 := below_then b1 b2
  generalize (mulR a b).1 = m1 at *
  generalize (mulR a b).2 = m2 at *
  go_wp2_with fail
  refine (div_any a b _).mono ?_
  rintro e w3 ⟨rfl, b3⟩
  have b13 := below_then b12 b3
  go_wp2_with fail
  refine (div_ref a b _).mono ?_
  rintro e w4 ⟨rfl, b4⟩
  have b14 := below_then b13 b4
  generalize (divR a b).1 = d1 at *
  generalize (divR a b).2 = d2 at *
  go_wp2_with fail
  refine (mod_any a b _).mono ?_
  rintro e w5 ⟨rfl, b5⟩
  have b15 := below_then b14 b5
  go_wp2_with fail
  refine (mod_ref a b _).mono ?_
  rintro e w6 ⟨rfl, b6⟩
  have b16 := below_then b15 b6
  generalize (modR a b).1 = r1 at *
  generalize (modR a b).2 = r2 at *
  go_wp2_with fail
  refine (wakes_any _ ((unhide HE).below b16)).mono ?_
  rintro e w7 ⟨rfl, b7⟩
  go_wp2
  go_ret
  exact ⟨rfl, below_then b16 b7⟩
end Go.Proofs.YtobkmjjdnfimoaaDoor
