/- The contracts of layer 1's small functions: good, size, signed, power, Raw, Of, Add, Sub. -/
import Derived.Test.YtlgmpoofcdkaeaaDoorRows
import Derived.WalkKit
import Derived.WalkSpells
import Derived.WalkLawsBesides
namespace Go.Proofs.YtlgmpoofcdkaeaaDoor
open Go.RowKit

def goodB (a : Int) : Bool := decide (-9000000000000000000 ≤ a) && decide (a ≤ 9000000000000000000)
theorem goodB_iff (a : Int) : goodB a = true ↔ -9000000000000000000 ≤ a ∧ a ≤ 9000000000000000000 := by
  unfold goodB; simp
theorem goodB_not (a : Int) : goodB a = false ↔ a < -9000000000000000000 ∨ 9000000000000000000 < a := by
  rw [← Bool.not_eq_true, goodB_iff]; omega
theorem hide {p : Prop} (h : p) : Hid p := h
theorem unhide {p : Prop} (h : Hid p) : p := h
theorem ret_int {k : IntKind} {a b : Int} (h : a = b) : Ending.returned (.int k a) = .returned (.int k b) := by rw [h]
theorem ret_ne {k k' : IntKind} {a b c d : Int} (h : a = b) (h' : c = d) : Ending.returned (.tuple #[.int k a, .int k' c]) = .returned (.tuple #[.int k b, .int k' d]) := by rw [h, h']

/-- What 'signed' tells: the number, its error. -/
def sgnN (b : Bool) (p : Int) : Int := if 9000000000000000000 < p then 0 else if b then -p else p
def sgnE (p : Int) : Int := if 9000000000000000000 < p then 5 else 0

end Go.Proofs.YtlgmpoofcdkaeaaDoor
