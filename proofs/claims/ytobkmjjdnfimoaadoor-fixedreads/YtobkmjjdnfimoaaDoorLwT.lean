/- The walk of the law FixedReads: it answers true. -/
import Derived.Test.YtobkmjjdnfimoaaDoorLwA
import Derived.Test.YtobkmjjdnfimoaaDoorRfP
import Derived.Test.YtobkmjjdnfimoaaDoorRfT
namespace Go.Proofs.YtobkmjjdnfimoaaDoor
open Go.RowKit

set_option maxRecDepth 100000 in
set_option maxHeartbeats 2000000 in
theorem reads_any (s : ByteArray) (a : Int) (w : World) (hs : s.size ≤ maxLen) (he : Env w) :
    Calls Tryd.prog 6 #[.string s, .int .i64 a] w fun e w' => e = .returned (.bool true) ∧ Below w.heap.size w w' := by
  have HE := hide he
  clear he
  unfold maxLen at hs
  go_enter Tryd.func6, Tryd.ntmps6
  go_upto_region 1 with fail
  go_cut [0] from 9 (fun v wx => (∃ s1 : ByteArray, v = .string s1 ∧ s1.size ≤ 100) ∧ wx = w)
  case first =>
    by_cases hl : s.size ≤ 100
    · have hm : min (s.size : Int) 100 = (s.size : Int) := by omega
      go_wp2
      go_meet
      case rel => exact ⟨⟨_, rfl, by first | omega | (simp; omega)⟩, rfl⟩
    · have hm : min (s.size : Int) 100 = 100 := by omega
      go_wp2
      go_meet
      case rel => exact ⟨⟨_, rfl, by simp; omega⟩, rfl⟩
  case rest =>
    obtain ⟨⟨s1, rfl, hs1⟩, rfl⟩ := hcut
    clear hs
    go_wp2_with fail
    refine (parse_any s1 _ (by omega) (unhide HE).len).mono ?_
    rintro e w1 ⟨rfl, b1⟩
    go_wp2_with fail
    refine (parse_ref s1 _ hs1).mono ?_
    rintro e w2 ⟨rfl, b2⟩
    generalize (parseR s1.data.toList).1 = r1 at *
    generalize (parseR s1.data.toList).2 = r2 at *
    have b12 := below_next b1 b2
    go_wp2_with fail
    refine (wakes_any _ ((unhide HE).below b12)).mono ?_
    rintro e w3 ⟨rfl, b3⟩
    have b13 := below_next b12 b3
    go_wp2_with fail
    refine (text_any a _ ((unhide HE).below b13).tab).mono ?_
    rintro e w4 ⟨rfl, b4⟩
    go_wp2_with fail
    refine (text_ref a _).mono ?_
    rintro e w5 ⟨rfl, b5⟩
    generalize (⟨(textL a).toArray⟩ : ByteArray) = t at *
    have b15 := below_next (below_next b13 b4) b5
    go_wp2
    go_ret
    exact ⟨rfl, b15⟩
end Go.Proofs.YtobkmjjdnfimoaaDoor
