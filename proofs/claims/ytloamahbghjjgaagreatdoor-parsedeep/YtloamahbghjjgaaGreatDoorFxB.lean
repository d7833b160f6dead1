/- The contracts of Raw, Of, Add, Sub. -/
import Derived.Test.YtloamahbghjjgaaGreatDoorFxA
namespace Go.Proofs.YtloamahbghjjgaaGreatDoor
open Go.RowKit

def okAdd (a b : Int) : Bool := goodB a && goodB b && goodB (a + b)
def addN (a b : Int) : Int := if okAdd a b = true then a + b else 0
def addE (a b : Int) : Int := if okAdd a b = true then 0 else 5
theorem okAdd_iff (a b : Int) : okAdd a b = true ↔ (-9000000000000000000 ≤ a ∧ a ≤ 9000000000000000000) ∧ (-9000000000000000000 ≤ b ∧ b ≤ 9000000000000000000) ∧ -9000000000000000000 ≤ a + b ∧ a + b ≤ 9000000000000000000 := by
  unfold okAdd; rw [Bool.and_eq_true, Bool.and_eq_true, goodB_iff, goodB_iff, goodB_iff]; omega

theorem good2_any (a b : Int) (w : World) (t : TypeId) :
    Calls Tryz.prog 231 #[.slice (some ⟨w.heap.size, 0, none⟩) 2 2] (w.alloc (.cells #[.int .i64 a, .int .i64 b] t)) fun e w' => e = .returned (.bool (goodB a && goodB b)) ∧ w' = w.alloc (.cells #[.int .i64 a, .int .i64 b] t) := by
  have h := good_any w.heap.size 0 2 2 [a, b] (w.alloc (.cells #[.int .i64 a, .int .i64 b] t)) rfl (by omega) (by
    intro i hi
    match i, hi with
    | 0, _ => simp [go_sem]
    | 1, _ => simp [go_sem])
  refine h.mono ?_
  rintro e w' ⟨rfl, rfl⟩
  exact ⟨by simp, rfl⟩

theorem good1_any (a : Int) (w : World) (t : TypeId) :
    Calls Tryz.prog 231 #[.slice (some ⟨w.heap.size, 0, none⟩) 1 1] (w.alloc (.cells #[.int .i64 a] t)) fun e w' => e = .returned (.bool (goodB a)) ∧ w' = w.alloc (.cells #[.int .i64 a] t) := by
  have h := good_any w.heap.size 0 1 1 [a] (w.alloc (.cells #[.int .i64 a] t)) rfl (by omega) (by
    intro i hi
    match i, hi with
    | 0, _ => simp [go_sem])
  refine h.mono ?_
  rintro e w' ⟨rfl, rfl⟩
  exact ⟨by simp, rfl⟩

theorem below_alloc (w : World) (o : Obj) : Below w.heap.size w (w.alloc o) := (Below.refl _ _).alloc (Nat.le_refl _) _

set_option maxHeartbeats 400000 in
theorem raw_any (a : Int) (w : World) :
    Calls Tryz.prog 228 #[.int .i64 a] w fun e w' => e = .returned (.tuple #[.int .i64 (if goodB a = true then a else 0), .int .i64 (if goodB a = true then 0 else 5)]) ∧ Below w.heap.size w w' := by
  cases hg : goodB a
  · have HG := hide hg
    clear hg
    go_enter Tryz.func228, Tryz.ntmps228
    go_wp2_with fail
    refine (good1_any _ _ _).mono ?_
    rintro e w' ⟨rfl, rfl⟩
    rw [unhide HG]
    go_wp2
    go_ret2
    exact ⟨rfl, below_alloc _ _⟩
  · have HG := hide hg
    clear hg
    go_enter Tryz.func228, Tryz.ntmps228
    go_wp2_with fail
    refine (good1_any _ _ _).mono ?_
    rintro e w' ⟨rfl, rfl⟩
    rw [unhide HG]
    go_wp2
    go_ret2
    exact ⟨rfl, below_alloc _ _⟩

def wholeB (a : Int) : Bool := decide (-900000000000000 ≤ a) && decide (a ≤ 900000000000000)
theorem wholeB_iff (a : Int) : wholeB a = true ↔ -900000000000000 ≤ a ∧ a ≤ 900000000000000 := by
  unfold wholeB; simp
theorem wholeB_not (a : Int) : wholeB a = false ↔ a < -900000000000000 ∨ 900000000000000 < a := by
  rw [← Bool.not_eq_true, wholeB_iff]; omega

def subE (a b : Int) : Int := addE a (-b)
def subN (a b : Int) : Int := addN a (-b)

end Go.Proofs.YtloamahbghjjgaaGreatDoor
