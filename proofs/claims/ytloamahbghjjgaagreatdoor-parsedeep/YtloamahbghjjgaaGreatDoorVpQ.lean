/- Two values of the program's are compared. -/
import Derived.Test.YtloamahbghjjgaaGreatDoorVrA
import Derived.Laws.StructEq
namespace Go.Proofs.YtloamahbghjjgaaGreatDoor
open Go.RowKit

def vEq (a b : Vl) : Bool := (a.kind == b.kind) && ((a.num == b.num) && ((a.text.toList == b.text.toList) && ((a.tr == b.tr) && (a.fail == b.fail))))

theorem vl_eq (k n : Int) (s : ByteArray) (b : Bool) (f : Int) (k' n' : Int) (s' : ByteArray) (b' : Bool) (f' : Int) (w : World) :
    (binOp .eql 46 (.agg #[.int .i64 k, .int .i64 n, .string s, .bool b, .int .i64 f]) (.agg #[.int .i64 k', .int .i64 n', .string s', .bool b', .int .i64 f'])).run Tryz.prog w
      = .ok (.bool (vEq ⟨k, n, s, b, f⟩ ⟨k', n', s', b', f'⟩)) w := by
  have hS : Tryz.prog.underlying 46 = some (.struct (Tryz.prog.fieldsOf 46)) := by kernel_rfl
  have hp : Tryz.prog.stoodInHeld 46 = false := by kernel_rfl
  have u1 := Tryz.underlying42
  have u2 := Tryz.underlying43
  have u3 := Tryz.underlying9
  have u4 := Tryz.underlying4
  have u5 := Tryz.underlying44
  have a1 := Tryz.isAgg42
  have a2 := Tryz.isAgg43
  have a3 := Tryz.isAgg9
  have a4 := Tryz.isAgg4
  have a5 := Tryz.isAgg44
  have z1 := Tryz.sizeOf42
  have z2 := Tryz.sizeOf43
  have z3 := Tryz.sizeOf9
  have z4 := Tryz.sizeOf4
  have z5 := Tryz.sizeOf44
  rw [run_eql_struct, show (10000 : Nat) = 9999 + 1 from rfl, run_equalIn_agg w 9999 46 _ _ hS hp]
  simp only [Program.fieldsOf, Tryz.underlying46]
  go_simp
  unfold vEq
  by_cases h1 : k = k'
  · by_cases h2 : n = n'
    · by_cases h3 : s.toList = s'.toList
      · by_cases h4 : b = b'
        · by_cases h5 : f = f'
          · simp [h1, h2, h3, h4, h5]
          · simp [h1, h2, h3, h4, h5]
        · simp [h1, h2, h3, h4]
      · simp [h1, h2, h3]
    · simp [h1, h2]
  · simp [h1]
end Go.Proofs.YtloamahbghjjgaaGreatDoor
