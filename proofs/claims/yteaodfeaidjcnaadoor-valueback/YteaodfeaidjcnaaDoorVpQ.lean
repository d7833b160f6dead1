/- Two values of the program's are compared. -/
import Derived.Test.YteaodfeaidjcnaaDoorVrA
import Derived.Laws.StructEq
namespace Go.Proofs.YteaodfeaidjcnaaDoor
open Go.RowKit

def vEq (a b : Vl) : Bool := (a.kind == b.kind) && ((a.num == b.num) && ((a.text.toList == b.text.toList) && ((a.tr == b.tr) && (a.fail == b.fail))))

theorem vl_eq (k n : Int) (s : ByteArray) (b : Bool) (f : Int) (k' n' : Int) (s' : ByteArray) (b' : Bool) (f' : Int) (w : World) :
    (binOp .eql 28 (.agg #[.int .i64 k, .int .i64 n, .string s, .bool b, .int .i64 f]) (.agg #[.int .i64 k', .int .i64 n', .string s', .bool b', .int .i64 f'])).run Tryd.prog w
      = .ok (.bool (vEq ⟨k, n, s, b, f⟩ ⟨k', n', s', b', f'⟩)) w := by
  have hS : Tryd.prog.underlying 28 = some (.struct (Tryd.prog.fieldsOf 28)) := by kernel_rfl
  have hp : Tryd.prog.stoodInHeld 28 = false := by kernel_rfl
  have u1 := Tryd.underlying24
  have u2 := Tryd.underlying25
  have u3 := Tryd.underlying9
  have u4 := Tryd.underlying4
  have u5 := Tryd.underlying26
  have a1 := Tryd.isAgg24
  have a2 := Tryd.isAgg25
  have a3 := Tryd.isAgg9
  have a4 := Tryd.isAgg4
  have a5 := Tryd.isAgg26
  have z1 := Tryd.sizeOf24
  have z2 := Tryd.sizeOf25
  have z3 := Tryd.sizeOf9
  have z4 := Tryd.sizeOf4
  have z5 := Tryd.sizeOf26
  rw [run_eql_struct, show (10000 : Nat) = 9999 + 1 from rfl, run_equalIn_agg w 9999 28 _ _ hS hp]
  simp only [Program.fieldsOf, Tryd.underlying28]
  go_simp
  unfold vEq
  by_cases h1 : k = k'
  · by_cases h2 : n = n'
    · by_cases h3 : s.toList = s'.toList
      · by_cases h4 : b = b'
        · by_cases h5 : f = f'
          · simp [h1, h2, h3, h4, h5]
          · simp [h1, h2, h3, h4, h5]
        · simp [h1, h2, h3, h4]
      · simp [h1, h2, h3]
    · simp [h1, h2]
  · simp [h1]
end Go.Proofs.YteaodfeaidjcnaaDoor
