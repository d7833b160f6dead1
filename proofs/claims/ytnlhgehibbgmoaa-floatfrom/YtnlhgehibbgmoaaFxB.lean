/- The contract of Raw. -/
import Derived.Test.YtnlhgehibbgmoaaFxA
namespace Go.Proofs.Ytnlhgehibbgmoaa
open Go.RowKit

theorem good1_any (a : Int) (w : World) (t : TypeId) :
    Calls Try.prog 43 #[.slice (some ⟨w.heap.size, 0, none⟩) 1 1] (w.alloc (.cells #[.int .i64 a] t)) fun e w' => e = .returned (.bool (goodB a)) ∧ w' = w.alloc (.cells #[.int .i64 a] t) := by
  have h := good_any w.heap.size 0 1 1 [a] (w.alloc (.cells #[.int .i64 a] t)) rfl (by omega) (by
    intro i hi
    match i, hi with
    | 0, _ => simp [go_sem])
  refine h.mono ?_
  rintro e w' ⟨rfl, rfl⟩
  exact ⟨by simp, rfl⟩

theorem below_alloc (w : World) (o : Obj) : Below w.heap.size w (w.alloc o) := (Below.refl _ _).alloc (Nat.le_refl _) _

set_option maxHeartbeats 400000 in
theorem raw_any (a : Int) (w : World) :
    Calls Try.prog 24 #[.int .i64 a] w fun e w' => e = .returned (.tuple #[.int .i64 (if goodB a = true then a else 0), .int .i64 (if goodB a = true then 0 else 5)]) ∧ Below w.heap.size w w' := by
  cases hg : goodB a
  · have HG := hide hg
    clear hg
    go_enter Try.func24, Try.ntmps24
    go_wp2_with fail
    refine (good1_any _ _ _).mono ?_
    rintro e w' ⟨rfl, rfl⟩
    rw [unhide HG]
    go_wp2
    go_ret2
    exact ⟨rfl, below_alloc _ _⟩
  · have HG := hide hg
    clear hg
    go_enter Try.func24, Try.ntmps24
    go_wp2_with fail
    refine (good1_any _ _ _).mono ?_
    rintro e w' ⟨rfl, rfl⟩
    rw [unhide HG]
    go_wp2
    go_ret2
    exact ⟨rfl, below_alloc _ _⟩

end Go.Proofs.Ytnlhgehibbgmoaa
