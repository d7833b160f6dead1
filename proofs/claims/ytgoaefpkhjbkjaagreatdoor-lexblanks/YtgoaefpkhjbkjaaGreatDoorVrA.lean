/- The contracts of the reference's E, N, T, B, Good, Sound, of layer 3. -/
import Derived.Test.YtgoaefpkhjbkjaaGreatDoorRfA
import Derived.Laws.Rows
namespace Go.Proofs.YtgoaefpkhjbkjaaGreatDoor
open Go.RowKit

/-- A value as plain data. -/
structure Vl where
  kind : Int
  num : Int
  text : ByteArray
  tr : Bool
  fail : Int
def Vl.cells (v : Vl) : Array Value := #[.int .i64 v.kind, .int .i64 v.num, .string v.text, .bool v.tr, .int .i64 v.fail]
abbrev noText : ByteArray := ⟨#[]⟩
def vE (f : Int) : Vl := ⟨4, 0, noText, false, if f < 1 ∨ 8 < f then 3 else f⟩
def vN (n : Int) : Vl := if goodB n = true then ⟨1, n, noText, false, 0⟩ else vE 2
def vT (s : ByteArray) : Vl := if 255 < s.size then vE 3 else ⟨2, 0, s, false, 0⟩
def vB (b : Bool) : Vl := ⟨3, 0, noText, b, 0⟩
def vGood (v : Vl) : Bool :=
  if v.kind = 0 then (v.num == 0) && (v.text.toList == []) && !v.tr && (v.fail == 0)
  else if v.kind = 1 then goodB v.num && (v.text.toList == []) && !v.tr && (v.fail == 0)
  else if v.kind = 2 then (v.num == 0) && decide (v.text.size ≤ 255) && !v.tr && (v.fail == 0)
  else if v.kind = 3 then (v.num == 0) && (v.text.toList == []) && (v.fail == 0)
  else if v.kind = 4 then (v.num == 0) && (v.text.toList == []) && !v.tr && decide (1 ≤ v.fail) && decide (v.fail ≤ 8)
  else false
def vSound (v : Vl) : Vl := if vGood v = true then v else vE 3

end Go.Proofs.YtgoaefpkhjbkjaaGreatDoor
